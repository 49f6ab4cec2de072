import PyProof.Rows.All
import Wide.All
import OpenK.AllK
import Wide.FinOn
import HandS.ForMost
import HandS.Walk
import HandS.Zip
import HandS.Star
import HandS.IsInst
import HandS.Wide
import HandS.Flow
import HandS.TupAny
import HandS.Conv
import HandS.Defaults
import HandS.Style
import HandS.Strs
import HandS.Property
import HandS.ClsMeth
import HandS.Text
import HandS.RaiseMore
import HandS.Set
import HandS.Deep
import HandS.TupMul
import HandS.FStr
import HandS.OwnEq
import KE.KOpsOwn
import HandS.SetBool
import HandS.TupSets
import PyProof.FactsAll.set_2
import HandS.TryOnly
import KE.KDictZip
import HandS.Dict
import PyProof.Rows.SortStr
import PySem.Challenge.RW_touchcaps_k36_how_high_rules_stand
set_option Elab.async false
set_option linter.all false
set_option maxRecDepth 100000
/-! TC: a layer of data over the hand layer: what a name holds is data (D), told without addresses; one list of three ints (the urn) may change. -/
namespace TC
open PySem PySem.Spec PyProof.Rows L2

/-- data, without addresses; the urn -/
inductive D where
  | non | bl (b : Bool) | int (i : Int) | str (s : Str) | lst (l : List D) | tup (l : List D) | obj (c : Nat) (l : List D) | urn | cell (p : Addr) (l : List D) | dct (l : List (Str × Str)) | tupz (l : List Str)
/-- the classes by number: where one stands, its fields -/
class Cl where
  c : Nat → Addr × List Str
  /-- where the program's own empty tuple stands -/
  e0 : Addr
  /-- the written part -/
  K : PySem.W.Frag
variable [Cl]
/-- a tuple of the written part -/
def Kt (a : Addr) (vs : List V) : Prop := ∃ (o : Obj) (its : Array Value) (n : Nat), Cl.K.lookup a = some o ∧ o.cls = .type "tuple" ∧ o.data = .seq its n ∧ its.size ≤ sizeLine ∧ Vals vs its.toList

/-- the world: where the urn stands; what else is not data -/
structure W where
  u : Option Addr
  ex : List Addr
  /-- those of ex that are lists of a def's own, that it fills -/
  ce : List Addr
  sub : ∀ a ∈ ce, a ∈ ex
def W.av (w : W) (a : Addr) : Prop := w.u = some a ∨ a ∈ w.ex
/-- a tuple of the written part, or one that stands -/
def TupAt (w : W) (H : Hp) (a : Addr) (vs : List V) : Prop := Kt a vs ∨ (¬ w.av a ∧ Rd H a (.tup vs))
theorem Kt.sq {K : PySem.W.Frag} {a : Addr} {vs : List V} (h : Kt a vs) (hK : K = Cl.K) {H : Hp} : SqT K H a vs := by
  subst hK; exact .inr h
theorem TupAt.sq {w : W} {K : PySem.W.Frag} {H : Hp} {a : Addr} {vs : List V} (h : TupAt w H a vs) (hK : K = Cl.K) : SqT K H a vs := by
  rcases h with h | ⟨_, h⟩
  · exact h.sq hK
  · exact .inl h
theorem TupAt.new {w : W} {H : Hp} {a : Addr} {vs : List V} (n : ¬ w.av a) (h : H a = some (.tup vs)) : TupAt w H a vs := .inr ⟨n, .inl h⟩

mutual
def Hd (w : W) (H : Hp) (v : V) : D → Prop
  | .non => v = .non
  | .bl b => v = .bl b
  | .int i => v = .int i
  | .str s => v = .str s
  | .lst l => ∃ a vs, v = .ref a ∧ ¬ w.av a ∧ H a = some (.lst vs) ∧ Hds w H vs l
  | .tup l => ∃ a vs, v = .ref a ∧ TupAt w H a vs ∧ Hds w H vs l
  | .obj c l => ∃ a dx vs, v = .ref a ∧ ¬ w.av a ∧ ¬ w.av dx ∧ H dx = some (.own a) ∧ H a = some (.ins (Cl.c c).1 dx ((Cl.c c).2.zip vs)) ∧ Hds w H vs l
  | .urn => ∃ a, w.u = some a ∧ v = .ref a
  | .cell p l => v = .ref p ∧ p ∈ w.ce ∧ w.u ≠ some p ∧ ∃ vs, H p = some (.lst vs) ∧ Hds w H vs l
  | .dct l => ∃ a, v = .ref a ∧ ¬ w.av a ∧ H a = some (.dK (l.map fun p => ((.inr p.1 : Key), V.str p.2)))
  | .tupz l => ∃ a, v = .ref a ∧ ¬ w.av a ∧ ∃ o : Obj, H a = some (.frz o (.tup (l.map V.str))) ∧ o.cls = .type "tuple" ∧ o.dict = none
def Hds (w : W) (H : Hp) (vs : List V) : List D → Prop
  | [] => vs = []
  | d :: ds => ∃ x xs, vs = x :: xs ∧ Hd w H x d ∧ Hds w H xs ds
end

/-- all but what may change is as it was -/
def Fr (w : W) (H H' : Hp) : Prop := ∀ b o, w.u ≠ some b → H b = some o → H' b = some o
theorem W.nu {w : W} {a : Addr} (n : ¬ w.av a) : w.u ≠ some a := fun z => n (.inl z)
theorem Fr.refl (w : W) (H : Hp) : Fr w H H := fun _ _ _ h => h
theorem Fr.trans {w : W} {H H1 H2 : Hp} (a : Fr w H H1) (b : Fr w H1 H2) : Fr w H H2 := fun c o n h => b c o n (a c o n h)
theorem TupAt.mono {w w' : W} {H H' : Hp} {a : Addr} {vs : List V} (h : TupAt w H a vs) (hn : ∀ o, ¬ w.av a → H a = some o → ¬ w'.av a) (hk : ∀ o, ¬ w.av a → H a = some o → H' a = some o) : TupAt w' H' a vs := by
  rcases h with h | ⟨n, h | ⟨o, h⟩⟩
  · exact .inl h
  · exact .inr ⟨hn _ n h, .inl (hk _ n h)⟩
  · exact .inr ⟨hn _ n h, .inr ⟨o, hk _ n h⟩⟩
theorem TupAt.keep {w : W} {H H' : Hp} {a : Addr} {vs : List V} (h : TupAt w H a vs) (hk : ∀ o, ¬ w.av a → H a = some o → H' a = some o) : TupAt w H' a vs := h.mono (fun _ n _ => n) hk

mutual
theorem Hd.fr {w : W} {H H' : Hp} (f : Fr w H H') {v : V} : ∀ {d : D}, Hd w H v d → Hd w H' v d
  | .non, h => by unfold Hd at h ⊢; exact h
  | .bl b, h => by unfold Hd at h ⊢; exact h
  | .int i, h => by unfold Hd at h ⊢; exact h
  | .str s, h => by unfold Hd at h ⊢; exact h
  | .lst l, h => by
    unfold Hd at h ⊢
    obtain ⟨a, vs, e, n, ha, hs⟩ := h
    exact ⟨a, vs, e, n, f _ _ (W.nu n) ha, Hds.fr f hs⟩
  | .tup l, h => by
    unfold Hd at h ⊢
    obtain ⟨a, vs, e, ha, hs⟩ := h
    exact ⟨a, vs, e, ha.keep fun o n e => f _ _ (W.nu n) e, Hds.fr f hs⟩
  | .obj c l, h => by
    unfold Hd at h ⊢
    obtain ⟨a, dx, vs, e, n, n2, hd, ha, hs⟩ := h
    exact ⟨a, dx, vs, e, n, n2, f _ _ (W.nu n2) hd, f _ _ (W.nu n) ha, Hds.fr f hs⟩
  | .urn, h => by unfold Hd at h ⊢; exact h
  | .cell p l, h => by
    unfold Hd at h ⊢
    obtain ⟨e, m, n, vs, ha, hs⟩ := h
    exact ⟨e, m, n, vs, f _ _ n ha, Hds.fr f hs⟩
  | .dct l, h => by
    unfold Hd at h ⊢
    obtain ⟨a, e, n, ha⟩ := h
    exact ⟨a, e, n, f _ _ (W.nu n) ha⟩
  | .tupz l, h => by
    unfold Hd at h ⊢
    obtain ⟨a, e, n, o, ha, hc⟩ := h
    exact ⟨a, e, n, o, f _ _ (W.nu n) ha, hc⟩
theorem Hds.fr {w : W} {H H' : Hp} (f : Fr w H H') {vs : List V} : ∀ {ds : List D}, Hds w H vs ds → Hds w H' vs ds
  | [], h => by unfold Hds at h ⊢; exact h
  | d :: ds, h => by
    unfold Hds at h ⊢
    obtain ⟨x, xs, e, h1, h2⟩ := h
    exact ⟨x, xs, e, Hd.fr f h1, Hds.fr f h2⟩
end
theorem Hds.nil {w : W} {H : Hp} : Hds w H [] [] := by unfold Hds; rfl
theorem Hds.cons {w : W} {H : Hp} {v : V} {vs : List V} {d : D} {ds : List D} (h : Hd w H v d) (hs : Hds w H vs ds) : Hds w H (v :: vs) (d :: ds) := by
  unfold Hds; exact ⟨v, vs, rfl, h, hs⟩
theorem Hds.uncons {w : W} {H : Hp} {vs : List V} {d : D} {ds : List D} (h : Hds w H vs (d :: ds)) : ∃ x xs, vs = x :: xs ∧ Hd w H x d ∧ Hds w H xs ds := by
  unfold Hds at h; exact h
theorem Hds.unnil {w : W} {H : Hp} {vs : List V} (h : Hds w H vs []) : vs = [] := by unfold Hds at h; exact h
theorem Hds.len {w : W} {H : Hp} : ∀ {ds : List D} {vs : List V}, Hds w H vs ds → vs.length = ds.length
  | [], vs, h => by rw [h.unnil]; rfl
  | d :: ds, vs, h => by
    obtain ⟨x, xs, rfl, _, h2⟩ := h.uncons
    simp [h2.len]
theorem Hds.app {w : W} {H : Hp} : ∀ {ds es : List D} {vs us : List V}, Hds w H vs ds → Hds w H us es → Hds w H (vs ++ us) (ds ++ es)
  | [], es, vs, us, h, g => by rw [h.unnil]; exact g
  | d :: ds, es, vs, us, h, g => by
    obtain ⟨x, xs, rfl, h1, h2⟩ := h.uncons
    exact .cons h1 (h2.app g)
theorem Hds.take {w : W} {H : Hp} : ∀ {ds : List D} {vs : List V} (n : Nat), Hds w H vs ds → Hds w H (vs.take n) (ds.take n)
  | _, _, 0, _ => by simp; exact .nil
  | [], vs, n + 1, h => by rw [h.unnil]; simp; exact .nil
  | d :: ds, vs, n + 1, h => by
    obtain ⟨x, xs, rfl, h1, h2⟩ := h.uncons
    exact .cons h1 (h2.take n)
theorem Hds.drop {w : W} {H : Hp} : ∀ {ds : List D} {vs : List V} (n : Nat), Hds w H vs ds → Hds w H (vs.drop n) (ds.drop n)
  | _, _, 0, h => h
  | [], vs, n + 1, h => by rw [h.unnil]; simp; exact .nil
  | d :: ds, vs, n + 1, h => by
    obtain ⟨x, xs, rfl, h1, h2⟩ := h.uncons
    exact h2.drop n
theorem Hds.get {w : W} {H : Hp} : ∀ {ds : List D} {vs : List V} {i : Nat} {d : D}, Hds w H vs ds → ds[i]? = some d → ∃ v, vs[i]? = some v ∧ Hd w H v d
  | [], vs, i, d, h, e => by simp at e
  | d :: ds, vs, 0, d', h, e => by
    obtain ⟨x, xs, rfl, h1, h2⟩ := h.uncons
    simp at e; subst e
    exact ⟨x, rfl, h1⟩
  | d :: ds, vs, i + 1, d', h, e => by
    obtain ⟨x, xs, rfl, h1, h2⟩ := h.uncons
    exact h2.get (i := i) (by simpa using e)
theorem Hds.of {w : W} {H : Hp} : ∀ {ds : List D} {vs : List V}, vs.length = ds.length → (∀ (i : Nat) (v : V) (d : D), vs[i]? = some v → ds[i]? = some d → Hd w H v d) → Hds w H vs ds
  | [], [], _, _ => .nil
  | d :: ds, v :: vs, hl, h => .cons (h 0 v d rfl rfl) (Hds.of (by simpa using hl) fun i x e h1 h2 => h (i + 1) x e (by simpa using h1) (by simpa using h2))
  | [], v :: vs, hl, _ => by simp at hl
  | d :: ds, [], hl, _ => by simp at hl

/-! ### the urn -/
def MAXC : Int := 1000000000
/-- the urn at a, m draws left -/
def UrnAt (H : Hp) (a : Addr) (m : Nat) : Prop := ∃ x y z : Int, H a = some (.lst [.int x, .int y, .int z]) ∧ 0 ≤ z ∧ z + m ≤ MAXC
def UI (w : W) (m : Nat) (H : Hp) : Prop := (∀ a, w.u = some a → UrnAt H a m) ∧ ∀ a ∈ w.ex, ∃ o, H a = some o
theorem UrnAt.mono {H : Hp} {a : Addr} {m m' : Nat} (h : UrnAt H a m) (l : m' ≤ m) : UrnAt H a m' := by
  obtain ⟨x, y, z, e, h3, h4⟩ := h
  exact ⟨x, y, z, e, h3, by omega⟩
theorem UI.mono {w : W} {H : Hp} {m m' : Nat} (h : UI w m H) (l : m' ≤ m) : UI w m' H := ⟨fun a e => (h.1 a e).mono l, h.2⟩
theorem UI.there {w : W} {H : Hp} {m : Nat} (h : UI w m H) {a : Addr} (n : w.av a) : ∃ o, H a = some o := by
  rcases n with n | n
  · obtain ⟨x, y, z, e, _⟩ := h.1 a n; exact ⟨_, e⟩
  · exact h.2 a n
theorem UI.new {w : W} {H : Hp} {m : Nat} (h : UI w m H) {a : Addr} (n : H a = none) : ¬ w.av a := fun z => by
  obtain ⟨o, e⟩ := h.there z; rw [n] at e; cases e
theorem UI.upd {w : W} {H : Hp} {m : Nat} (h : UI w m H) {a : Addr} {o : HO} (n : H a = none) : UI w m (upd H a o) := by
  refine ⟨fun b e => ?_, fun b e => ?_⟩
  · obtain ⟨x, y, z, e', r⟩ := h.1 b e
    exact ⟨x, y, z, by rw [upd_ne (ne_of_none e' n)]; exact e', r⟩
  · obtain ⟨u, e'⟩ := h.2 b e
    exact ⟨u, by rw [upd_ne (ne_of_none e' n)]; exact e'⟩
theorem Fr.upd {w : W} {H : Hp} {a : Addr} {o : HO} (n : H a = none) : Fr w H (upd H a o) := fun b u _ e => by
  rw [upd_ne (ne_of_none e n)]; exact e
/-- a tracked, changing thing of the world's own is written -/
theorem Fr.write {w : W} {H : Hp} {a : Addr} {o : HO} (n : w.u = some a) : Fr w H (L2.upd H a o) := fun b u hb e => by
  rw [upd_ne (fun z => hb (by rw [z]; exact n))]; exact e
theorem Fr.of_same {w : W} {H H' : Hp} (s : Same H H') : Fr w H H' := fun b o _ e => s b o e

mutual
/-- what is no data is written -/
theorem Hd.write {w : W} {H : Hp} {a : Addr} {o : HO} (n : w.av a) (nc : a ∉ w.ce) {v : V} : ∀ {d : D}, Hd w H v d → Hd w (upd H a o) v d
  | .non, h => by unfold Hd at h ⊢; exact h
  | .bl b, h => by unfold Hd at h ⊢; exact h
  | .int i, h => by unfold Hd at h ⊢; exact h
  | .str s, h => by unfold Hd at h ⊢; exact h
  | .lst l, h => by
    unfold Hd at h ⊢
    obtain ⟨b, vs, e, k, ha, hs⟩ := h
    exact ⟨b, vs, e, k, by rw [upd_ne (fun z => k (by rw [z]; exact n))]; exact ha, Hds.write n nc hs⟩
  | .tup l, h => by
    unfold Hd at h ⊢
    obtain ⟨b, vs, e, ha, hs⟩ := h
    exact ⟨b, vs, e, ha.keep fun o k e => by rw [upd_ne (fun z => k (by rw [z]; exact n))]; exact e, Hds.write n nc hs⟩
  | .obj c l, h => by
    unfold Hd at h ⊢
    obtain ⟨b, dx, vs, e, k, k2, hd, ha, hs⟩ := h
    exact ⟨b, dx, vs, e, k, k2, by rw [upd_ne (fun z => k2 (by rw [z]; exact n))]; exact hd, by rw [upd_ne (fun z => k (by rw [z]; exact n))]; exact ha, Hds.write n nc hs⟩
  | .urn, h => by unfold Hd at h ⊢; exact h
  | .cell p l, h => by
    unfold Hd at h ⊢
    obtain ⟨e, m, k, vs, ha, hs⟩ := h
    exact ⟨e, m, k, vs, by rw [upd_ne (fun z => nc (by rw [← z]; exact m))]; exact ha, Hds.write n nc hs⟩
  | .dct l, h => by
    unfold Hd at h ⊢
    obtain ⟨b, e, k, ha⟩ := h
    exact ⟨b, e, k, by rw [upd_ne (fun z => k (by rw [z]; exact n))]; exact ha⟩
  | .tupz l, h => by
    unfold Hd at h ⊢
    obtain ⟨b, e, k, o, ha, hc⟩ := h
    exact ⟨b, e, k, o, by rw [upd_ne (fun z => k (by rw [z]; exact n))]; exact ha, hc⟩
theorem Hds.write {w : W} {H : Hp} {a : Addr} {o : HO} (n : w.av a) (nc : a ∉ w.ce) {vs : List V} : ∀ {ds : List D}, Hds w H vs ds → Hds w (upd H a o) vs ds
  | [], h => by unfold Hds at h ⊢; exact h
  | d :: ds, h => by
    unfold Hds at h ⊢
    obtain ⟨x, xs, e, h1, h2⟩ := h
    exact ⟨x, xs, e, Hd.write n nc h1, Hds.write n nc h2⟩
end

/-! ### no cells -/
mutual
def noc : D → Bool
  | .lst l => nocL l
  | .tup l => nocL l
  | .obj _ l => nocL l
  | .cell _ _ => false
  | _ => true
def nocL : List D → Bool
  | [] => true
  | d :: l => noc d && nocL l
end
theorem nocL_mem : ∀ {l : List D}, (∀ d ∈ l, noc d = true) → nocL l = true
  | [], _ => rfl
  | d :: l, h => by rw [nocL, h d (List.mem_cons_self ..), nocL_mem fun e he => h e (List.mem_cons_of_mem _ he)]; rfl
theorem nocL_of : ∀ {l : List D}, nocL l = true → ∀ d ∈ l, noc d = true
  | d :: l, h, e, he => by
    rw [nocL, Bool.and_eq_true] at h
    rcases List.mem_cons.mp he with rfl | he
    · exact h.1
    · exact nocL_of h.2 e he
theorem nocL_app {l r : List D} (h : nocL l = true) (g : nocL r = true) : nocL (l ++ r) = true := nocL_mem fun d hd => by
  rcases List.mem_append.mp hd with h1 | h1
  · exact nocL_of h d h1
  · exact nocL_of g d h1
/-- what may not change, cells aside -/
def Frx (w : W) (H H' : Hp) : Prop := ∀ b o, ¬ w.av b → H b = some o → H' b = some o
theorem Fr.x {w : W} {H H' : Hp} (f : Fr w H H') : Frx w H H' := fun b o n e => f b o (W.nu n) e
theorem Frx.trans {w : W} {H H1 H2 : Hp} (a : Frx w H H1) (b : Frx w H1 H2) : Frx w H H2 := fun c o n h => b c o n (a c o n h)
theorem Frx.refl (w : W) (H : Hp) : Frx w H H := fun _ _ _ h => h
mutual
theorem Hd.frx {w : W} {H H' : Hp} (f : Frx w H H') {v : V} : ∀ {d : D}, noc d = true → Hd w H v d → Hd w H' v d
  | .non, _, h => by unfold Hd at h ⊢; exact h
  | .bl b, _, h => by unfold Hd at h ⊢; exact h
  | .int i, _, h => by unfold Hd at h ⊢; exact h
  | .str s, _, h => by unfold Hd at h ⊢; exact h
  | .lst l, c, h => by
    rw [noc] at c
    unfold Hd at h ⊢
    obtain ⟨a, vs, e, n, ha, hs⟩ := h
    exact ⟨a, vs, e, n, f _ _ n ha, Hds.frx f c hs⟩
  | .tup l, c, h => by
    rw [noc] at c
    unfold Hd at h ⊢
    obtain ⟨a, vs, e, ha, hs⟩ := h
    exact ⟨a, vs, e, ha.keep fun o n e => f _ _ n e, Hds.frx f c hs⟩
  | .obj k l, c, h => by
    rw [noc] at c
    unfold Hd at h ⊢
    obtain ⟨a, dx, vs, e, n, n2, hd, ha, hs⟩ := h
    exact ⟨a, dx, vs, e, n, n2, f _ _ n2 hd, f _ _ n ha, Hds.frx f c hs⟩
  | .urn, _, h => by unfold Hd at h ⊢; exact h
  | .cell p l, c, h => by rw [noc] at c; cases c
  | .dct l, _, h => by
    unfold Hd at h ⊢
    obtain ⟨a, e, n, ha⟩ := h
    exact ⟨a, e, n, f _ _ n ha⟩
  | .tupz l, _, h => by
    unfold Hd at h ⊢
    obtain ⟨a, e, n, o, ha, hc⟩ := h
    exact ⟨a, e, n, o, f _ _ n ha, hc⟩
theorem Hds.frx {w : W} {H H' : Hp} (f : Frx w H H') {vs : List V} : ∀ {ds : List D}, nocL ds = true → Hds w H vs ds → Hds w H' vs ds
  | [], _, h => by unfold Hds at h ⊢; exact h
  | d :: ds, c, h => by
    rw [nocL, Bool.and_eq_true] at c
    unfold Hds at h ⊢
    obtain ⟨x, xs, e, h1, h2⟩ := h
    exact ⟨x, xs, e, Hd.frx f c.1 h1, Hds.frx f c.2 h2⟩
end
/-- what items ds ask to stand -/
def Keep (w : W) (ds : List D) (H0 H1 : Hp) : Prop := Fr w H0 H1 ∨ (nocL ds = true ∧ Frx w H0 H1)
theorem Keep.at {w : W} {ds : List D} {H0 H1 : Hp} (k : Keep w ds H0 H1) {a : Addr} {o : HO} (n : ¬ w.av a) (e : H0 a = some o) : H1 a = some o := by
  rcases k with f | ⟨_, f⟩
  · exact f a o (W.nu n) e
  · exact f a o n e
theorem Keep.hd {w : W} {ds : List D} {H0 H1 : Hp} (k : Keep w ds H0 H1) {v : V} {d : D} (m : d ∈ ds) (h : Hd w H0 v d) : Hd w H1 v d := by
  rcases k with f | ⟨c, f⟩
  · exact h.fr f
  · exact h.frx f (nocL_of c d m)
/-! ### slots -/
abbrev Env := List (Option D)
def Sls (w : W) (H : Hp) (σ : L2.St) (env : Env) : Prop := σ.length = env.length ∧ ∀ (i : Nat) (d : D), env[i]? = some (some d) → ∃ v, σ[i]? = some (some v) ∧ Hd w H v d
theorem Sls.fr {w : W} {H H' : Hp} {σ : L2.St} {env : Env} (h : Sls w H σ env) (f : Fr w H H') : Sls w H' σ env :=
  ⟨h.1, fun i d e => let ⟨v, e1, h1⟩ := h.2 i d e; ⟨v, e1, h1.fr f⟩⟩
theorem Sls.write {w : W} {H : Hp} {σ : L2.St} {env : Env} (h : Sls w H σ env) {a : Addr} {o : HO} (n : w.av a) (nc : a ∉ w.ce) : Sls w (upd H a o) σ env :=
  ⟨h.1, fun i d e => let ⟨v, e1, h1⟩ := h.2 i d e; ⟨v, e1, h1.write n nc⟩⟩
theorem Sls.set {w : W} {H : Hp} {σ : L2.St} {env : Env} (h : Sls w H σ env) (i : Nat) {v : V} {d : D} (hv : Hd w H v d) : Sls w H (σ.set i (some v)) (env.set i (some d)) := by
  refine ⟨by simp [h.1], fun j e q => ?_⟩
  by_cases hij : i = j
  · subst hij
    have hl : i < env.length := by
      by_cases hl : i < env.length
      · exact hl
      · rw [List.getElem?_eq_none (by simpa using hl)] at q; cases q
    rw [List.getElem?_set_self hl] at q
    cases q
    exact ⟨v, List.getElem?_set_self (by rw [h.1]; exact hl), hv⟩
  · rw [List.getElem?_set_ne hij] at q
    obtain ⟨u, e1, h1⟩ := h.2 j e q
    exact ⟨u, by rw [List.getElem?_set_ne hij]; exact e1, h1⟩
theorem Sls.forget {w : W} {H : Hp} {σ : L2.St} {env : Env} (h : Sls w H σ env) (i : Nat) : Sls w H (σ.set i none) (env.set i none) := by
  refine ⟨by simp [h.1], fun j e q => ?_⟩
  by_cases hij : i = j
  · subst hij
    by_cases hl : i < env.length
    · rw [List.getElem?_set_self hl] at q; cases q
    · rw [List.getElem?_eq_none (by simpa using hl)] at q; cases q
  · rw [List.getElem?_set_ne hij] at q
    obtain ⟨u, e1, h1⟩ := h.2 j e q
    exact ⟨u, by rw [List.getElem?_set_ne hij]; exact e1, h1⟩
def wipeE (env : Env) : List Nat → Env
  | [] => env
  | v :: vs => (wipeE env vs).set v none
theorem Sls.wipe {w : W} {H : Hp} {σ : L2.St} {env : Env} (h : Sls w H σ env) : ∀ vs : List Nat, Sls w H (L2.wipe σ vs) (wipeE env vs)
  | [] => h
  | v :: vs => (h.wipe vs).forget v
theorem Sls.start {w : W} {H : Hp} {vs : List V} {ds : List D} (h : Hds w H vs ds) (N : List Str) : Sls w H (L2.start N vs) (ds.map some ++ List.replicate (N.length - ds.length) none) := by
  have hl := h.len
  refine ⟨by simp [L2.start, hl], fun i d e => ?_⟩
  by_cases hi : i < ds.length
  · rw [List.getElem?_append_left (by simpa using hi)] at e
    rw [List.getElem?_map] at e
    have e2 : ds[i]? = some d := by
      cases q : ds[i]? with
      | none => rw [q] at e; cases e
      | some x => rw [q] at e; simpa using e
    obtain ⟨v, e3, hv⟩ := h.get e2
    refine ⟨v, ?_, hv⟩
    unfold L2.start
    rw [List.getElem?_append_left (by simpa [hl] using hi), List.getElem?_map, e3]
    rfl
  · rw [List.getElem?_append_right (by simpa using hi)] at e
    obtain ⟨_, e⟩ := List.getElem?_eq_some_iff.mp e
    simp at e

/-! ### what an expression gives, as data -/
/-- what may be wanted behind: of each outcome that the data's wish tells -/
def Ct (w : W) (H : Hp) (Q' : D → Nat → Prop) (Q : VK) : Prop := ∀ v d m' H', Fr w H H' → UI w m' H' → Hd w H' v d → Q' d m' → Q v H'
def Cts (w : W) (H : Hp) (Q' : List D → Nat → Prop) (Q : List V → Hp → Prop) : Prop := ∀ vs ds m' H', Fr w H H' → UI w m' H' → Hds w H' vs ds → Q' ds m' → Q vs H'
def Ctb (w : W) (H : Hp) (Q' : Bool → Nat → Prop) (Q : Bool → Hp → Prop) : Prop := ∀ b m' H', Fr w H H' → UI w m' H' → Q' b m' → Q b H'
theorem Ct.from {w : W} {H H1 : Hp} {Q' : D → Nat → Prop} {Q : VK} (c : Ct w H Q' Q) (f : Fr w H H1) : Ct w H1 Q' Q := fun v d m' H' g => c v d m' H' (f.trans g)

abbrev DE := Env → Nat → (D → Nat → Prop) → Prop
abbrev DA := Env → Nat → (List D → Nat → Prop) → Prop
abbrev DT := Env → Nat → (Bool → Nat → Prop) → Prop
/-- what the machine wants ahead of e, for Q behind it -/
def wpE (X : Cx) (e : Expr) : TE := fun σ H Q => ∀ pins s, Inv X pins σ H s → wpAny (model X.prog X.w) X.A (eval e X.env) (EP X pins σ Q) X.xe s
def wpA (X : Cx) (es : List Expr) : TA := fun σ H Q => ∀ pos pins s, Inv X pins σ H s → wpAny (model X.prog X.w) X.A (spliced (backTo pos (starEach es X.env))) (AP X pins σ Q) X.xe s
def wpT (X : Cx) (e : Expr) : TT := fun σ H Q => ∀ pins s, Inv X pins σ H s → wpAny (model X.prog X.w) X.A (isTrue e X.env (eval e X.env)) (TP X pins σ Q) X.xe s
theorem pe_self {X : Cx} {e : Expr} : PE X e (wpE X e) := ⟨fun pins s σ H Q I h => h pins s I⟩
theorem pa_self {X : Cx} {es : List Expr} : PA X es (wpA X es) := ⟨fun pos pins s σ H Q I h => h pos pins s I⟩
theorem pt_self {X : Cx} {e : Expr} : PT X e (wpT X e) := ⟨fun pins s σ H Q I h => h pins s I⟩
theorem wp_of {X : Cx} {e : Expr} {t : TE} (h : PE X e t) {σ H Q} (q : t σ H Q) : wpE X e σ H Q := fun pins s I => h.run pins s σ H Q I q
theorem wpA_of {X : Cx} {es : List Expr} {t : TA} (h : PA X es t) {σ H Q} (q : t σ H Q) : wpA X es σ H Q := fun pos pins s I => h.run pos pins s σ H Q I q
theorem wpT_of {X : Cx} {e : Expr} {t : TT} (h : PT X e t) {σ H Q} (q : t σ H Q) : wpT X e σ H Q := fun pins s I => h.run pins s σ H Q I q

structure De (X : Cx) (e : Expr) (t : DE) : Prop where
  run : ∀ w σ H env m Q' Q, Sls w H σ env → UI w m H → t env m Q' → Ct w H Q' Q → wpE X e σ H Q
structure Da (X : Cx) (es : List Expr) (t : DA) : Prop where
  run : ∀ w σ H env m Q' Q, Sls w H σ env → UI w m H → t env m Q' → Cts w H Q' Q → wpA X es σ H Q
structure Dt (X : Cx) (e : Expr) (t : DT) : Prop where
  run : ∀ w σ H env m Q' Q, Sls w H σ env → UI w m H → t env m Q' → Ctb w H Q' Q → wpT X e σ H Q

section
variable {X : Cx} {e : Expr} {es : List Expr} {te ta tb : DE} {pos : Pos}
def dVar (i : Nat) : DE := fun env m Q => ∃ d, env[i]? = some (some d) ∧ Q d m
def dC (d : D) : DE := fun _ m Q => Q d m
theorem dv (i : Nat) {x : Str} (hN : X.N[i]? = some x := by rfl) (hv : Vis X.env.scope x := by first | exact Or.inl rfl | exact Or.inr (Or.inl rfl) | exact Or.inr (Or.inr rfl)) (hd : (x == ("__debug__" : Str)) = false := by decide)
    (hcd : (x == ("__classdict__" : Str)) = false := by decide) : De X (.Name x pos) (dVar i) := by
  refine ⟨fun w σ H env m Q' Q hs hu h c => ?_⟩
  obtain ⟨d, e, q⟩ := h
  obtain ⟨v, e1, h1⟩ := hs.2 i d e
  exact wp_of (pe_var hN hv hd hcd) ⟨v, e1, c v d m H (Fr.refl _ _) hu h1 q⟩
theorem de_int {i j} : De X (.Constant (.int i) j pos) (dC (.int i)) := ⟨fun w σ H env m Q' Q hs hu h c => wp_of pe_int (c _ _ _ _ (Fr.refl _ _) hu (by unfold Hd; rfl) h)⟩
theorem de_bl {b j} : De X (.Constant (.bool b) j pos) (dC (.bl b)) := ⟨fun w σ H env m Q' Q hs hu h c => wp_of pe_bl (c _ _ _ _ (Fr.refl _ _) hu (by unfold Hd; rfl) h)⟩
theorem de_non {j} : De X (.Constant .none j pos) (dC .non) := ⟨fun w σ H env m Q' Q hs hu h c => wp_of pe_non (c _ _ _ _ (Fr.refl _ _) hu (by unfold Hd; rfl) h)⟩
theorem de_str {x j} : De X (.Constant (.str x) j pos) (dC (.str x)) := ⟨fun w σ H env m Q' Q hs hu h c => wp_of pe_str (c _ _ _ _ (Fr.refl _ _) hu (by unfold Hd; rfl) h)⟩

/-! ### argument lists, displays -/
def dNil : DA := fun _ m Q => Q [] m
def dCons (ta : DE) (tr : DA) : DA := fun env m Q => ta env m fun x m1 => tr env m1 fun xs m2 => Q (x :: xs) m2
def dStar (ta : DE) (tr : DA) : DA := fun env m Q => ta env m fun x m1 => ∃ l, (x = .tup l ∨ x = .lst l) ∧ tr env m1 fun xs m2 => Q (l ++ xs) m2
theorem da_nil : Da X [] dNil := ⟨fun w σ H env m Q' Q hs hu h c => wpA_of pa_nil (c _ _ _ _ (Fr.refl _ _) hu .nil h)⟩
theorem da_cons {tr : DA} (ha : De X e ta) (hr : Da X es tr) (hs : starEach (e :: es) X.env = (false, eval e X.env) :: starEach es X.env := by rfl) : Da X (e :: es) (dCons ta tr) := by
  refine ⟨fun w σ H env m Q' Q sl hu h c => wpA_of (pa_cons pe_self pa_self hs) ?_⟩
  refine ha.run w σ H env m _ _ sl hu h fun v d m1 H1 f1 u1 h1 q1 => ?_
  refine hr.run w σ H1 env m1 _ _ (sl.fr f1) u1 q1 fun vs ds m2 H2 f2 u2 h2 q2 => ?_
  exact c _ _ _ _ (f1.trans f2) u2 (.cons (h1.fr f2) h2) q2
def dTup (t : DA) : DE := fun env m Q => t env m fun ds m1 => ds.length ≤ sizeLine ∧ Q (.tup ds) m1
def dLst (t : DA) : DE := fun env m Q => t env m fun ds m1 => ds.length ≤ sizeLine ∧ Q (.lst ds) m1
theorem new_tup {w : W} {H : Hp} {m : Nat} {p : Addr} {vs : List V} {ds : List D} (hu : UI w m H) (hs : Hds w H vs ds) (hp : H p = none) : Hd w (upd H p (.tup vs)) (.ref p) (.tup ds) := by
  unfold Hd
  exact ⟨p, vs, rfl, .new (hu.new hp) upd_same, hs.fr (Fr.upd hp)⟩
theorem new_lst {w : W} {H : Hp} {m : Nat} {p : Addr} {vs : List V} {ds : List D} (hu : UI w m H) (hs : Hds w H vs ds) (hp : H p = none) : Hd w (upd H p (.lst vs)) (.ref p) (.lst ds) := by
  unfold Hd
  exact ⟨p, vs, rfl, hu.new hp, upd_same, hs.fr (Fr.upd hp)⟩
theorem de_tup {x1} {t : DA} (h : Da X es t) : De X (.Tuple es x1 pos) (dTup t) := by
  refine ⟨fun w σ H env m Q' Q sl hu hh c => wp_of (pe_tup pa_self) ?_⟩
  refine h.run w σ H env m _ _ sl hu hh fun vs ds m1 H1 f1 u1 h1 ⟨hz, q1⟩ => ⟨by rw [h1.len]; exact hz, fun p hp => ?_⟩
  exact c _ _ _ _ (f1.trans (Fr.upd hp)) (u1.upd hp) (new_tup u1 h1 hp) q1
theorem de_lst {t : DA} (h : Da X es t) : De X (.List es pos) (dLst t) := by
  refine ⟨fun w σ H env m Q' Q sl hu hh c => wp_of (pe_lst pa_self) ?_⟩
  refine h.run w σ H env m _ _ sl hu hh fun vs ds m1 H1 f1 u1 h1 ⟨hz, q1⟩ => ⟨by rw [h1.len]; exact hz, fun p hp => ?_⟩
  exact c _ _ _ _ (f1.trans (Fr.upd hp)) (u1.upd hp) (new_lst u1 h1 hp) q1
end
end TC
namespace TC
open PySem PySem.Spec PyProof.Rows L2
variable [Cl]

/-! ### operators by data -/
abbrev D2 := D → D → Nat → (D → Nat → Prop) → Prop
def wpOp (X : Cx) (f : Value → Value → Sem Value) : R2 := fun x y H Q => ∀ pins s σ v u, Inv X pins σ H s → RelV x v → RelV y u → wpAny (model X.prog X.w) X.A (f v u) (EP X pins σ Q) X.xe s
theorem op_self {X : Cx} {f : Value → Value → Sem Value} : OpR X f (wpOp X f) := fun pins s σ H x y v u Q I rx ry h => h pins s σ v u I rx ry
theorem wpOp_of {X : Cx} {f : Value → Value → Sem Value} {r : R2} (h : OpR X f r) {x y H Q} (q : r x y H Q) : wpOp X f x y H Q := fun pins s σ v u I rx ry => h pins s σ H x y v u Q I rx ry q
structure DOp (X : Cx) (f : Value → Value → Sem Value) (t : D2) : Prop where
  run : ∀ w H m x y dx dy Q' Q, UI w m H → Hd w H x dx → Hd w H y dy → t dx dy m Q' → Ct w H Q' Q → wpOp X f x y H Q
def dBin (t : D2) (ta tb : DE) : DE := fun env m Q => ta env m fun x m1 => tb env m1 fun y m2 => t x y m2 Q
section
variable {X : Cx} {a b e : Expr} {es : List Expr} {te ta tb : DE} {t : D2} {pos : Pos}
theorem bin_run {f : Value → Value → Sem Value} (ho : DOp X f t) (ha : De X a ta) (hb : De X b tb) {w σ H env m Q' Q} (sl : Sls w H σ env) (hu : UI w m H) (h : dBin t ta tb env m Q') (c : Ct w H Q' Q) : tOp (wpOp X f) (wpE X a) (wpE X b) σ H Q := by
  refine ha.run w σ H env m _ _ sl hu h fun v d m1 H1 f1 u1 h1 q1 => ?_
  refine hb.run w σ H1 env m1 _ _ (sl.fr f1) u1 q1 fun v2 d2 m2 H2 f2 u2 h2 q2 => ?_
  exact ho.run w H2 m2 v v2 d d2 _ _ u2 (h1.fr f2) h2 q2 (c.from (f1.trans f2))
theorem de_op {op : Operator} (ho : DOp X (binaryOp op) t) (ha : De X a ta) (hb : De X b tb) : De X (.BinOp a op b pos) (dBin t ta tb) :=
  ⟨fun w σ H env m Q' Q sl hu h c => wp_of (pe_op op_self pe_self pe_self) (bin_run ho ha hb sl hu h c)⟩
theorem de_cmp {op : CmpOp} (ho : DOp X (compareOp op) t) (ha : De X a ta) (hb : De X b tb) (hm : behindInMarks op b = false := by first | exact nomark _ | rfl) : De X (.Compare a [op] [b] pos) (dBin t ta tb) :=
  ⟨fun w σ H env m Q' Q sl hu h c => wp_of (pe_cmpR op_self pe_self pe_self hm) (bin_run ho ha hb sl hu h c)⟩
/-- a value that is a bool, as a test -/
def dB (t : DE) : DT := fun env m Q => t env m fun d m1 => ∃ b, d = .bl b ∧ Q b m1
theorem dt_cmp {op : CmpOp} (ho : DOp X (compareOp op) t) (ha : De X a ta) (hb : De X b tb) (hm : behindInMarks op b = false := by first | exact nomark _ | rfl) : Dt X (.Compare a [op] [b] pos) (dB (dBin t ta tb)) := by
  refine ⟨fun w σ H env m Q' Q sl hu h c => wpT_of (pt_cmpR op_self pe_self pe_self hm) ?_⟩
  show tTest (tOp (wpOp X (compareOp op)) (wpE X a) (wpE X b)) σ H Q
  refine bin_run ho ha hb sl hu h fun v d m1 H1 f1 u1 h1 q1 => ?_
  obtain ⟨k, rfl, q⟩ := q1
  unfold Hd at h1
  exact ⟨k, h1, c k m1 H1 f1 u1 q⟩
theorem dt_val (h : De X e te) (he : ∀ whole, isTrue e X.env whole = (do let v ← whole; standAt e.pos; holding [v] (truthy v)) := by intro _; rfl) : Dt X e (dB te) := by
  refine ⟨fun w σ H env m Q' Q sl hu hh c => wpT_of (pt_val pe_self he) ?_⟩
  refine h.run w σ H env m _ _ sl hu hh fun v d m1 H1 f1 u1 h1 q1 => ?_
  obtain ⟨k, rfl, q⟩ := q1
  unfold Hd at h1
  exact ⟨k, h1, c k m1 H1 f1 u1 q⟩
end

section
variable {X : Cx}
/-- the simple values -/
def fv : D → V
  | .bl b => .bl b
  | .int i => .int i
  | .str s => .str s
  | _ => .non
def flatD : D → Bool
  | .non => true
  | .bl _ => true
  | .int _ => true
  | .str _ => true
  | _ => false
theorem Hd.flat {w : W} {H : Hp} {v : V} {d : D} (h : Hd w H v d) (f : flatD d = true) : v = fv d := by
  cases d <;> first | (unfold Hd at h; exact h) | (simp [flatD] at f)
theorem flat_fv {d : D} (f : flatD d = true) : flatV (fv d) = true := by
  cases d <;> first | rfl | (simp [flatD] at f)
theorem Hds.flat {w : W} {H : Hp} : ∀ {ds : List D} {vs : List V}, Hds w H vs ds → ds.all flatD = true → vs = ds.map fv
  | [], vs, h, _ => h.unnil
  | d :: ds, vs, h, f => by
    obtain ⟨x, xs, rfl, h1, h2⟩ := h.uncons
    simp only [List.all_cons, Bool.and_eq_true] at f
    rw [h1.flat f.1, h2.flat f.2]; rfl
theorem Hd.of_flat {w : W} {H : Hp} {d : D} (f : flatD d = true) : Hd w H (fv d) d := by
  cases d <;> first | (unfold Hd; rfl) | (simp [flatD] at f)

def dadd : D2 := fun x y m Q => match x, y with
  | .int i, .int j => Q (.int (i + j)) m
  | .str a, .str b => a.length + b.length ≤ sizeLine ∧ Q (.str (a ++ b)) m
  | .lst a, .lst b => a.length + b.length ≤ sizeLine ∧ Q (.lst (a ++ b)) m
  | .tup a, .tup b => a.length + b.length ≤ sizeLine ∧ Q (.tup (a ++ b)) m
  | _, _ => False
theorem Hd.int {w : W} {H : Hp} {v : V} {i : Int} : Hd w H v (.int i) ↔ v = .int i := by unfold Hd; rfl
theorem Hd.bl {w : W} {H : Hp} {v : V} {b : Bool} : Hd w H v (.bl b) ↔ v = .bl b := by unfold Hd; rfl
theorem Hd.str {w : W} {H : Hp} {v : V} {s : Str} : Hd w H v (.str s) ↔ v = .str s := by unfold Hd; rfl
theorem Hd.non {w : W} {H : Hp} {v : V} : Hd w H v .non ↔ v = .non := by unfold Hd; rfl
theorem Hd.lst {w : W} {H : Hp} {v : V} {l : List D} : Hd w H v (.lst l) ↔ ∃ a vs, v = .ref a ∧ ¬ w.av a ∧ H a = some (.lst vs) ∧ Hds w H vs l := by rw [Hd]
theorem Hd.tup {w : W} {H : Hp} {v : V} {l : List D} : Hd w H v (.tup l) ↔ ∃ a vs, v = .ref a ∧ TupAt w H a vs ∧ Hds w H vs l := by rw [Hd]
theorem do_add (hK : X.K = Cl.K := by rfl) : DOp X (binaryOp .Add) dadd := by
  refine ⟨fun w H m x y dx dy Q' Q hu hx hy h c => ?_⟩
  unfold dadd at h
  split at h
  · rw [Hd.int] at hx hy
    subst hx; subst hy
    exact wpOp_of op_add ⟨_, _, rfl, rfl, c _ _ _ _ (Fr.refl _ _) hu (Hd.int.mpr rfl) h⟩
  · rw [Hd.str] at hx hy
    subst hx; subst hy
    exact wpOp_of op_add_str ⟨_, _, rfl, rfl, h.1, c _ _ _ _ (Fr.refl _ _) hu (Hd.str.mpr rfl) h.2⟩
  · rw [Hd.lst] at hx hy
    obtain ⟨a, vs, rfl, na, ha, hs⟩ := hx
    obtain ⟨b, us, rfl, nb, hb, gs⟩ := hy
    refine wpOp_of op_cat ⟨_, _, _, _, rfl, rfl, ha, hb, by rw [hs.len, gs.len]; exact h.1, fun p hp => ?_⟩
    exact c _ _ _ _ (Fr.upd hp) (hu.upd hp) (new_lst hu (hs.app gs) hp) h.2
  · have ix := hx
    have iy := hy
    rw [Hd.tup] at hx hy
    obtain ⟨a, vs, rfl, ha, hs⟩ := hx
    obtain ⟨b, us, rfl, hb, gs⟩ := hy
    refine wpOp_of op_catA ⟨_, _, _, _, rfl, rfl, ha.sq hK, hb.sq hK, by rw [hs.len, gs.len]; exact h.1, fun e => ?_, fun e1 e2 => ?_, fun e1 e2 p hp => ?_⟩
    · subst e
      have e2 := hs.len
      simp only [List.length_nil] at e2
      have e3 := List.length_eq_zero_iff.mp e2.symm
      subst e3
      exact c _ _ _ _ (Fr.refl _ _) hu iy h.2
    · subst e2
      have e2 := gs.len
      simp only [List.length_nil] at e2
      have e3 := List.length_eq_zero_iff.mp e2.symm
      subst e3
      rw [List.append_nil] at h
      exact c _ _ _ _ (Fr.refl _ _) hu ix h.2
    · exact c _ _ _ _ (Fr.upd hp) (hu.upd hp) (new_tup hu (hs.app gs) hp) h.2
  · exact h.elim
def dI (C : Int → Int → Prop) (g : Int → Int → D) : D2 := fun x y m Q => ∃ i j, x = .int i ∧ y = .int j ∧ C i j ∧ Q (g i j) m
theorem do_I {f : Value → Value → Sem Value} {C : Int → Int → Prop} {g : Int → Int → V} {g' : Int → Int → D} (ho : OpR X f (rI C g)) (hg : ∀ i j, flatD (g' i j) = true ∧ g i j = fv (g' i j)) : DOp X f (dI C g') := by
  refine ⟨fun w H m x y dx dy Q' Q hu hx hy h c => ?_⟩
  obtain ⟨i, j, rfl, rfl, hc, q⟩ := h
  rw [Hd.int] at hx hy
  subst hx; subst hy
  refine wpOp_of ho ⟨_, _, rfl, rfl, hc, ?_⟩
  rw [(hg i j).2]
  exact c _ _ _ _ (Fr.refl _ _) hu (Hd.of_flat (hg i j).1) q
theorem do_I0 {f : Value → Value → Sem Value} {g : Int → Int → V} {g' : Int → Int → D} (ho : OpR X f (rI0 g)) (hg : ∀ i j, flatD (g' i j) = true ∧ g i j = fv (g' i j)) : DOp X f (dI (fun _ _ => True) g') := by
  refine ⟨fun w H m x y dx dy Q' Q hu hx hy h c => ?_⟩
  obtain ⟨i, j, rfl, rfl, hc, q⟩ := h
  rw [Hd.int] at hx hy
  subst hx; subst hy
  refine wpOp_of ho ⟨_, _, rfl, rfl, ?_⟩
  rw [(hg i j).2]
  exact c _ _ _ _ (Fr.refl _ _) hu (Hd.of_flat (hg i j).1) q
theorem do_sub : DOp X (binaryOp .Sub) (dI (fun _ _ => True) fun i j => .int (i - j)) := do_I0 op_sub fun _ _ => ⟨rfl, rfl⟩
theorem do_mod : DOp X (binaryOp .Mod) (dI (fun _ j => 0 < j) fun i j => .int (i % j)) := do_I op_mod fun _ _ => ⟨rfl, rfl⟩
theorem do_fdiv : DOp X (binaryOp .FloorDiv) (dI (fun _ j => 0 < j ∧ j < 2 ^ 30) fun i j => .int (i / j)) := do_I op_fdiv fun _ _ => ⟨rfl, rfl⟩
theorem do_lt : DOp X (compareOp .Lt) (dI (fun _ _ => True) fun i j => .bl (decide (i < j))) := do_I0 op_lt fun _ _ => ⟨rfl, rfl⟩
theorem do_le : DOp X (compareOp .LtE) (dI (fun _ _ => True) fun i j => .bl (decide (i ≤ j))) := do_I0 op_le fun _ _ => ⟨rfl, rfl⟩
theorem do_gt : DOp X (compareOp .Gt) (dI (fun _ _ => True) fun i j => .bl (decide (i > j))) := do_I0 op_gt fun _ _ => ⟨rfl, rfl⟩
theorem do_ge : DOp X (compareOp .GtE) (dI (fun _ _ => True) fun i j => .bl (decide (i ≥ j))) := do_I0 op_ge fun _ _ => ⟨rfl, rfl⟩
/-- == of simple values -/
def deq (neg : Bool) : D2 := fun x y m Q => flatD x = true ∧ flatD y = true ∧ scal (fv x) (fv y) = true ∧ Q (.bl (if neg then !decide (fv x = fv y) else decide (fv x = fv y))) m
theorem do_eq : DOp X (compareOp .Eq) (deq false) := by
  refine ⟨fun w H m x y dx dy Q' Q hu hx hy h c => ?_⟩
  obtain ⟨f1, f2, h3, q⟩ := h
  have e1 := hx.flat f1
  have e2 := hy.flat f2
  subst e1; subst e2
  exact wpOp_of op_eq ⟨h3, c _ _ _ _ (Fr.refl _ _) hu (Hd.bl.mpr rfl) q⟩
theorem do_ne : DOp X (compareOp .NotEq) (deq true) := by
  refine ⟨fun w H m x y dx dy Q' Q hu hx hy h c => ?_⟩
  obtain ⟨f1, f2, h3, q⟩ := h
  have e1 := hx.flat f1
  have e2 := hy.flat f2
  subst e1; subst e2
  exact wpOp_of op_ne ⟨h3, c _ _ _ _ (Fr.refl _ _) hu (Hd.bl.mpr rfl) q⟩
/-- x in y, y a list or a tuple of simple things -/
def din (neg : Bool) : D2 := fun x y m Q => ∃ l, (y = .lst l ∨ y = .tup l) ∧ flatD x = true ∧ l.all flatD = true ∧ Q (.bl (if neg then !inV (fv x) (l.map fv) else inV (fv x) (l.map fv))) m
theorem all_flat {l : List D} (h : l.all flatD = true) : (l.map fv).all flatV = true := by
  rw [List.all_eq_true] at h ⊢
  intro v hv
  obtain ⟨d, hd, rfl⟩ := List.mem_map.mp hv
  exact flat_fv (h d hd)
theorem in_run {neg : Bool} {w H m x y dx dy Q' Q} (hK : X.K = Cl.K) (hu : UI w m H) (hx : Hd w H x dx) (hy : Hd w H y dy) (h : din neg dx dy m Q') (c : Ct w H Q' Q) : rIn X.K neg x y H Q := by
  obtain ⟨l, hl, f1, f2, q⟩ := h
  have e1 := hx.flat f1
  subst e1
  rcases hl with rfl | rfl
  · rw [Hd.lst] at hy
    obtain ⟨a, vs, rfl, na, ha, hs⟩ := hy
    have e2 := hs.flat f2
    subst e2
    exact ⟨_, _, rfl, .inl (SqL.of ha), flat_fv f1, all_flat f2, c _ _ _ _ (Fr.refl _ _) hu (Hd.bl.mpr rfl) q⟩
  · rw [Hd.tup] at hy
    obtain ⟨a, vs, rfl, ha, hs⟩ := hy
    have e2 := hs.flat f2
    subst e2
    exact ⟨_, _, rfl, .inr (ha.sq hK), flat_fv f1, all_flat f2, c _ _ _ _ (Fr.refl _ _) hu (Hd.bl.mpr rfl) q⟩
theorem do_in (hK : X.K = Cl.K := by rfl) : DOp X (compareOp .In) (din false) := ⟨fun w H m x y dx dy Q' Q hu hx hy h c => wpOp_of op_in_seq (in_run hK hu hx hy h c)⟩
theorem do_notin (hK : X.K = Cl.K := by rfl) : DOp X (compareOp .NotIn) (din true) := ⟨fun w H m x y dx dy Q' Q hu hx hy h c => wpOp_of op_notIn_seq (in_run hK hu hx hy h c)⟩
end

/-! ### subscripts -/
def wpIx (X : Cx) : R2 := fun x y H Q => ∀ (value slice : Expr) pins s σ v u, Inv X pins σ H s → RelV x v → RelV y u → subscripted slice false v u = operate [v, u] (getItem v u) → wpAny (model X.prog X.w) X.A (subscriptTail value slice v u) (EP X pins σ Q) X.xe s
theorem ix_self {X : Cx} : IxR X (wpIx X) := fun value slice pins s σ H x y v u Q I rx ry h hs => h value slice pins s σ v u I rx ry hs
theorem wpIx_of {X : Cx} {r : R2} (h : IxR X r) {x y H Q} (q : r x y H Q) : wpIx X x y H Q := fun value slice pins s σ v u I rx ry hs => h value slice pins s σ H x y v u Q I rx ry q hs
def dix : D2 := fun x y m Q => ∃ i, y = .int i ∧ ((∃ l d, (x = .lst l ∨ x = .tup l) ∧ atI l i = some d ∧ Q d m) ∨ ∃ z c, x = .str z ∧ z.length ≤ sizeLine ∧ atI z.cps.toList i = some c ∧ Q (.str ⟨#[c]⟩) m)
theorem Hds.at {w : W} {H : Hp} {ds : List D} {vs : List V} {i : Int} {d : D} (h : Hds w H vs ds) (e : atI ds i = some d) : ∃ v, atI vs i = some v ∧ Hd w H v d := by
  unfold atI at e ⊢
  rw [h.len]
  cases q : ixN ds.length i with
  | none => rw [q] at e; cases e
  | some j =>
    rw [q] at e
    exact h.get (i := j) e
section
variable {X : Cx} {a b e : Expr} {te ta tb : DE} {pos p2 : Pos}
theorem de_ix (ha : De X a ta) (hb : De X b tb) (hs : PlainIx b := by intro _ _; rfl) (hK : X.K = Cl.K := by rfl) : De X (.Subscript a b pos) (dBin dix ta tb) := by
  refine ⟨fun w σ H env m Q' Q sl hu h c => wp_of (pe_ix ix_self pe_self pe_self hs) ?_⟩
  refine ha.run w σ H env m _ _ sl hu h fun v d m1 H1 f1 u1 h1 q1 => ?_
  refine hb.run w σ H1 env m1 _ _ (sl.fr f1) u1 q1 fun v2 d2 m2 H2 f2 u2 h2 q2 => ?_
  obtain ⟨i, rfl, q2⟩ := q2
  rw [Hd.int] at h2
  subst h2
  have h1 := h1.fr f2
  rcases q2 with ⟨l, d', hl, e, q⟩ | ⟨z, ch, rfl, hz, e, q⟩
  · rcases hl with rfl | rfl
    · rw [Hd.lst] at h1
      obtain ⟨p, vs, rfl, na, hp, hds⟩ := h1
      obtain ⟨v, e2, hv⟩ := hds.at e
      exact wpIx_of ix_list ⟨_, _, _, _, rfl, rfl, SqL.of hp, e2, c _ _ _ _ (f1.trans f2) u2 hv q⟩
    · rw [Hd.tup] at h1
      obtain ⟨p, vs, rfl, hp, hds⟩ := h1
      obtain ⟨v, e2, hv⟩ := hds.at e
      exact wpIx_of ix_tup ⟨_, _, _, _, rfl, rfl, hp.sq hK, e2, c _ _ _ _ (f1.trans f2) u2 hv q⟩
  · rw [Hd.str] at h1
    subst h1
    exact wpIx_of ix_str ⟨_, _, _, rfl, rfl, hz, e, c _ _ _ _ (f1.trans f2) u2 (Hd.str.mpr rfl) q⟩
/-! ### slices -/
abbrev DO := Env → Nat → (Option Int → Nat → Prop) → Prop
structure Dp (X : Cx) (e : Option Expr) (t : DO) : Prop where
  run : ∀ w σ H env m Q' (Q : Option Int → Hp → Prop), Sls w H σ env → UI w m H → t env m Q' → (∀ o m' H', Fr w H H' → UI w m' H' → Q' o m' → Q o H') → ∀ pins s, Inv X pins σ H s → wpAny (model X.prog X.w) X.A (evalPart e X.env) (fun u s' => ∃ o H', Inv X pins σ H' s' ∧ IsPart u o ∧ Q o H') X.xe s
def wpO (X : Cx) (e : Option Expr) : TO := fun σ H Q => ∀ pins s, Inv X pins σ H s → wpAny (model X.prog X.w) X.A (evalPart e X.env) (fun u s' => ∃ o H', Inv X pins σ H' s' ∧ IsPart u o ∧ Q o H') X.xe s
theorem po_self {o : Option Expr} : PO X o (wpO X o) := ⟨fun pins s σ H Q I h => h pins s I⟩
def dNo : DO := fun _ m Q => Q none m
def dSo (t : DE) : DO := fun env m Q => t env m fun d m1 => ∃ i, d = .int i ∧ Q (some i) m1
theorem dp_none : Dp X none dNo := ⟨fun w σ H env m Q' Q sl hu h c pins s I => po_none.run pins s σ H Q I (c _ _ _ (Fr.refl _ _) hu h)⟩
theorem dp_some (h : De X e te) : Dp X (some e) (dSo te) := by
  refine ⟨fun w σ H env m Q' Q sl hu hh c pins s I => (po_some pe_self).run pins s σ H Q I ?_⟩
  refine h.run w σ H env m _ _ sl hu hh fun v d m1 H1 f1 u1 h1 q1 => ?_
  obtain ⟨i, rfl, q⟩ := q1
  rw [Hd.int] at h1
  exact ⟨i, h1, c _ _ _ f1 u1 q⟩
def wpSl (X : Cx) : V → Option Int → Option Int → Hp → VK → Prop := fun x lo hi H Q => ∀ pins s σ v vl vu sl, Inv X pins σ H s → RelV x v → s.heap.IsSliceOf sl vl vu .none → IsPart vl lo → IsPart vu hi →
    ∃ T id, typeLookup (.type T) "__getitem__" = pure (some (.builtin id)) ∧ s.TypeIs v T ∧ wpAny (model X.prog X.w) X.A (getItem v (.ref sl)) (EP X pins σ Q) X.xe s
theorem sl_self : SlR X (wpSl X) := fun pins s σ H x v vl vu lo hi sl Q I rx hs pl pu h => h pins s σ v vl vu sl I rx hs pl pu
theorem wpSl_of {r : V → Option Int → Option Int → Hp → VK → Prop} (h : SlR X r) {x lo hi H Q} (q : r x lo hi H Q) : wpSl X x lo hi H Q := fun pins s σ v vl vu sl I rx hs pl pu => h pins s σ H x v vl vu lo hi sl Q I rx hs pl pu q
def cutD {α : Type} (xs : List α) (lo hi : Option Int) : List α := (xs.drop (HT.sIx xs.length 0 lo)).take (HT.sIx xs.length xs.length hi - HT.sIx xs.length 0 lo)
def dsl (x : D) (lo hi : Option Int) (m : Nat) (Q : D → Nat → Prop) : Prop := match x with
  | .lst l => Q (.lst (cutD l lo hi)) m
  | .tup l => Q (.tup (cutD l lo hi)) m
  | .str z => z.length ≤ sizeLine ∧ Q (.str (cutS z lo hi)) m
  | _ => False
theorem Hds.cut {w : W} {H : Hp} {ds : List D} {vs : List V} {lo hi : Option Int} (h : Hds w H vs ds) : Hds w H (cutV vs lo hi) (cutD ds lo hi) := by
  unfold cutV cutD
  rw [h.len]
  exact (h.drop _).take _
theorem cut_all {l : List D} {lo hi : Option Int} (h : HT.sIx l.length 0 lo = 0 ∧ HT.sIx l.length l.length hi = l.length) : cutD l lo hi = l := by
  unfold cutD
  rw [h.1, h.2]
  simp
def dSlice (te : DE) (tl th : DO) : DE := fun env m Q => te env m fun x m1 => tl env m1 fun l m2 => th env m2 fun u m3 => dsl x l u m3 Q
theorem de_slice {lo hi : Option Expr} {tl th : DO} (he : De X e te) (hl : Dp X lo tl) (hh : Dp X hi th) (hK : X.K = Cl.K := by rfl) : De X (.Subscript e (.Slice lo hi none p2) pos) (dSlice te tl th) := by
  refine ⟨fun w σ H env m Q' Q sl hu h c => wp_of (pe_slice sl_self pe_self po_self po_self) ?_⟩
  refine he.run w σ H env m _ _ sl hu h fun v d m1 H1 f1 u1 h1 q1 => ?_
  refine hl.run w σ H1 env m1 _ _ (sl.fr f1) u1 q1 fun l m2 H2 f2 u2 q2 => ?_
  refine hh.run w σ H2 env m2 _ _ (sl.fr (f1.trans f2)) u2 q2 fun u m3 H3 f3 u3 q3 => ?_
  have h3 := h1.fr (f2.trans f3)
  have fr := f1.trans (f2.trans f3)
  unfold dsl at q3
  split at q3
  · rw [Hd.lst] at h3
    obtain ⟨p, vs, rfl, na, hp, hds⟩ := h3
    refine wpSl_of sl_list ⟨_, _, rfl, SqL.of hp, fun q hq => ?_⟩
    exact c _ _ _ _ (fr.trans (Fr.upd hq)) (u3.upd hq) (new_lst u3 hds.cut hq) q3
  · have h4 := h3
    rw [Hd.tup] at h3
    obtain ⟨p, vs, rfl, hp, hds⟩ := h3
    refine wpSl_of sl_tupA ⟨_, _, rfl, hp.sq hK, fun hw => ?_, fun hw q hq => ?_⟩
    · rw [hds.len] at hw
      rw [cut_all hw] at q3
      exact c _ _ _ _ fr u3 h4 q3
    · exact c _ _ _ _ (fr.trans (Fr.upd hq)) (u3.upd hq) (new_tup u3 hds.cut hq) q3
  · rw [Hd.str] at h3
    subst h3
    exact wpSl_of sl_str ⟨_, rfl, q3.1, c _ _ _ _ fr u3 (Hd.str.mpr rfl) q3.2⟩
  · exact q3.elim
end

/-! ### calls -/
/-- a def's promise by data -/
abbrev DSp := List D → Nat → (D → Nat → Prop) → Prop
def spD (sp : DSp) : Sp := fun vs H Q _ => ∃ (w : W) (ds : List D) (m : Nat) (Q' : D → Nat → Prop), Hds w H vs ds ∧ UI w m H ∧ sp ds m Q' ∧ Ct w H Q' Q
def wpC (X : Cx) (f : Value) : List V → Hp → VK → Prop := fun xs H Q => ∀ pins s σ us, Inv X pins σ H s → Vals xs us → wpAny (model X.prog X.w) X.A (call f us) (EP X pins σ Q) X.xe s
theorem c_self {X : Cx} {f : Value} : CallR X f (wpC X f) := fun pins s σ H xs us Q I r h => h pins s σ us I r
theorem wpC_of {X : Cx} {f : Value} {r : List V → Hp → VK → Prop} (h : CallR X f r) {xs H Q} (q : r xs H Q) : wpC X f xs H Q := fun pins s σ us I rv => h pins s σ H xs us Q I rv q
structure DCall (X : Cx) (f : Value) (t : DSp) : Prop where
  run : ∀ w H m vs ds Q' Q, UI w m H → Hds w H vs ds → t ds m Q' → Ct w H Q' Q → wpC X f vs H Q
def dCall (sp : DSp) (t : DA) : DE := fun env m Q => t env m fun ds m1 => sp ds m1 Q
def dCallK (sp : DSp) (g : List D → List D → List D) (t tk : DA) : DE := fun env m Q => t env m fun ds m1 => tk env m1 fun es m2 => sp (g ds es) m2 Q
section
variable {X : Cx} {k : Nat} {f : Addr} {fd : FuncData} {ps : List Str} {sp : DSp} {x : Str} {p pos : Pos} {e : Expr} {es : List Expr} {t : DA} {id T : String}
theorem de_call (F : FnOk X.prog X.w X.K X.mg X.base CX0 k f fd ps (spD sp)) (hr : Room k X.A) (hm : X.mg x = some (.ref f)) (hk : PySem.W.keepIn X.K (.ref f) = true) (hb : Binds X.K fd ps []) (ha : Da X (e :: es) t) (hg : Gl X x := by rfl)
    (hdb : (x == ("__debug__" : Str)) = false := by decide) (he : starEach (e :: es) X.env = (false, eval e X.env) :: starEach es X.env := by rfl) (hpl : (backTo pos (starEach es X.env)).any (·.1) = false := by rfl) : De X (.Call (.Name x p) (e :: es) [] pos) (dCall sp t) := by
  refine ⟨fun w σ H env m Q' Q sl hu h c => wp_of (pe_call F hr hg hm hk hb .nil pass0 pa_self hdb he hpl) ?_⟩
  refine ha.run w σ H env m _ _ sl hu h fun vs ds m1 H1 f1 u1 h1 q1 => ?_
  rw [List.append_nil]
  exact ⟨w, ds, m1, _, h1, u1, q1, c.from f1⟩
theorem de_callB (hc : DCall X (.builtin id) sp) (hm : X.mg x = none) (ha : Da X (e :: es) t) (hg : Gl X x := by rfl) (hv : bootBuiltins x = some (.builtin id) := by decide +kernel) (hn : x ≠ "__name__" := by decide) (hdb : (x == ("__debug__" : Str)) = false := by decide)
    (he : starEach (e :: es) X.env = (false, eval e X.env) :: starEach es X.env := by rfl) (hpl : (backTo pos (starEach es X.env)).any (·.1) = false := by rfl) : De X (.Call (.Name x p) (e :: es) [] pos) (dCall sp t) := by
  refine ⟨fun w σ H env m Q' Q sl hu h c => wp_of (pe_callB c_self hg hm hv pa_self hn hdb he hpl) ?_⟩
  refine ha.run w σ H env m _ _ sl hu h fun vs ds m1 H1 f1 u1 h1 q1 => ?_
  exact hc.run w H1 m1 vs ds _ _ u1 h1 q1 (c.from f1)
theorem de_callTy (hc : DCall X (.type T) sp) (hm : X.mg x = none) (ha : Da X (e :: es) t) (hg : Gl X x := by rfl) (hv : bootBuiltins x = some (.type T) := by decide +kernel) (hn : x ≠ "__name__" := by decide) (hdb : (x == ("__debug__" : Str)) = false := by decide)
    (he : starEach (e :: es) X.env = (false, eval e X.env) :: starEach es X.env := by rfl) (hpl : (backTo pos (starEach es X.env)).any (·.1) = false := by rfl) : De X (.Call (.Name x p) (e :: es) [] pos) (dCall sp t) := by
  refine ⟨fun w σ H env m Q' Q sl hu h c => wp_of (pe_callTy c_self hg hm hv pa_self hn hdb he hpl) ?_⟩
  refine ha.run w σ H env m _ _ sl hu h fun vs ds m1 H1 f1 u1 h1 q1 => ?_
  exact hc.run w H1 m1 vs ds _ _ u1 h1 q1 (c.from f1)
theorem dc_len (hK : X.K = Cl.K := by rfl) : DCall X (.builtin "len") (fun ds m Q => ∃ l, (ds = [.lst l] ∨ ds = [.tup l]) ∧ Q (.int (l.length : Nat)) m) := by
  refine ⟨fun w H m vs ds Q' Q hu hs h c => ?_⟩
  obtain ⟨l, rfl | rfl, q⟩ := h
  all_goals
    obtain ⟨v, xs, rfl, h1, h2⟩ := hs.uncons
    cases h2.unnil
  · rw [Hd.lst] at h1
    obtain ⟨a, us, rfl, na, ha, hds⟩ := h1
    refine wpC_of call_len_seq ⟨_, us, rfl, .inl (SqL.of ha), ?_⟩
    rw [hds.len]
    exact c _ _ _ _ (Fr.refl _ _) hu (Hd.int.mpr rfl) q
  · rw [Hd.tup] at h1
    obtain ⟨a, us, rfl, ha, hds⟩ := h1
    refine wpC_of call_len_seq ⟨_, us, rfl, .inr (ha.sq hK), ?_⟩
    rw [hds.len]
    exact c _ _ _ _ (Fr.refl _ _) hu (Hd.int.mpr rfl) q
theorem dc_list (hK : X.K = Cl.K := by rfl) : DCall X (.type "list") (fun ds m Q => ∃ l, (ds = [.lst l] ∨ ds = [.tup l]) ∧ Q (.lst l) m) := by
  refine ⟨fun w H m vs ds Q' Q hu hs h c => ?_⟩
  obtain ⟨l, rfl | rfl, q⟩ := h
  all_goals
    obtain ⟨v, xs, rfl, h1, h2⟩ := hs.uncons
    cases h2.unnil
  · rw [Hd.lst] at h1
    obtain ⟨a, us, rfl, na, ha, hds⟩ := h1
    exact wpC_of call_list_of ⟨_, us, rfl, .inl (SqL.of ha), fun p hp => c _ _ _ _ (Fr.upd hp) (hu.upd hp) (new_lst hu hds hp) q⟩
  · rw [Hd.tup] at h1
    obtain ⟨a, us, rfl, ha, hds⟩ := h1
    exact wpC_of call_list_of ⟨_, us, rfl, .inr (ha.sq hK), fun p hp => c _ _ _ _ (Fr.upd hp) (hu.upd hp) (new_lst hu hds hp) q⟩
theorem dc_tuple (hK : X.K = Cl.K := by rfl) : DCall X (.type "tuple") (fun ds m Q => ∃ l, (ds = [.lst l] ∨ ds = [.tup l]) ∧ Q (.tup l) m) := by
  refine ⟨fun w H m vs ds Q' Q hu hs h c => ?_⟩
  obtain ⟨l, rfl | rfl, q⟩ := h
  · obtain ⟨v, xs, rfl, h1, h2⟩ := hs.uncons
    cases h2.unnil
    rw [Hd.lst] at h1
    obtain ⟨a, us, rfl, na, ha, hds⟩ := h1
    exact wpC_of call_tuple_of ⟨_, us, rfl, .inl ⟨SqL.of ha, fun p hp => c _ _ _ _ (Fr.upd hp) (hu.upd hp) (new_tup hu hds hp) q⟩⟩
  · obtain ⟨v, xs, rfl, h1, h2⟩ := hs.uncons
    cases h2.unnil
    have h3 := h1
    rw [Hd.tup] at h1
    obtain ⟨a, us, rfl, ha, hds⟩ := h1
    exact wpC_of call_tuple_of ⟨_, us, rfl, .inr ⟨ha.sq hK, c _ _ _ _ (Fr.refl _ _) hu h3 q⟩⟩
theorem dc_int : DCall X (.type "int") (fun ds m Q => (∃ i, ds = [.int i] ∧ Q (.int i) m) ∨ ∃ k, ds = [.bl k] ∧ Q (.int (if k then 1 else 0)) m) := by
  refine ⟨fun w H m vs ds Q' Q hu hs h c => ?_⟩
  rcases h with ⟨i, rfl, q⟩ | ⟨i, rfl, q⟩
  · obtain ⟨v, xs, rfl, h1, h2⟩ := hs.uncons
    cases h2.unnil
    rw [Hd.int] at h1; subst h1
    exact wpC_of call_int1 (.inl ⟨_, rfl, c _ _ _ _ (Fr.refl _ _) hu (Hd.int.mpr rfl) q⟩)
  · obtain ⟨v, xs, rfl, h1, h2⟩ := hs.uncons
    cases h2.unnil
    rw [Hd.bl] at h1; subst h1
    exact wpC_of call_int1 (.inr ⟨_, rfl, c _ _ _ _ (Fr.refl _ _) hu (Hd.int.mpr rfl) q⟩)
theorem flat_all {w : W} {H : Hp} {l : List D} {vs : List V} (hs : Hds w H vs l) (h : l.all flatD = true) : vs = l.map fv := hs.flat h
theorem dc_all (hc : X.calm = true) : DCall X (.builtin "all") (fun ds m Q => ∃ bs : List Bool, ds = [.lst (bs.map D.bl)] ∧ Q (.bl (bs.all fun b => b)) m) := by
  refine ⟨fun w H m vs ds Q' Q hu hs h c => ?_⟩
  obtain ⟨bs, rfl, q⟩ := h
  obtain ⟨v, xs, rfl, h1, h2⟩ := hs.uncons
  cases h2.unnil
  rw [Hd.lst] at h1
  obtain ⟨a, us, rfl, na, ha, hds⟩ := h1
  have e := hds.flat (by rw [List.all_eq_true]; intro d hd; obtain ⟨b, _, rfl⟩ := List.mem_map.mp hd; rfl)
  subst e
  refine wpC_of (cr_all hc) ⟨a, bs, rfl, ?_, c _ _ _ _ (Fr.refl _ _) hu (Hd.bl.mpr rfl) q⟩
  have e : (bs.map D.bl).map fv = bs.map V.bl := by rw [List.map_map]; rfl
  rw [e] at ha
  exact SqL.of ha
/-- sorted of texts, fewer than 64 -/
theorem dc_sortedS : DCall X (.builtin "sorted") (fun ds m Q => ∃ xs : List Str, ds = [.lst (xs.map D.str)] ∧ xs.length < 64 ∧ ∀ ys : List Str, ys.Perm xs → sortedS ys = true → Q (.lst (ys.map D.str)) m) := by
  refine ⟨fun w H m vs ds Q' Q hu hs h c => ?_⟩
  obtain ⟨xs, rfl, hl, q⟩ := h
  obtain ⟨v, zs, rfl, h1, h2⟩ := hs.uncons
  cases h2.unnil
  rw [Hd.lst] at h1
  obtain ⟨a, us, rfl, na, ha, hds⟩ := h1
  have fl : ∀ l : List Str, (l.map D.str).all flatD = true := fun l => by rw [List.all_eq_true]; intro d hd; obtain ⟨b, _, rfl⟩ := List.mem_map.mp hd; rfl
  have e := hds.flat (fl xs)
  subst e
  have e : ∀ l : List Str, (l.map D.str).map fv = l.map V.str := fun l => by rw [List.map_map]; rfl
  rw [e] at ha
  refine wpC_of cr_sortedS ⟨a, xs, rfl, SqL.of ha, hl, fun ys p hp hst hn => ?_⟩
  refine c _ _ _ _ (Fr.upd hn) (hu.upd hn) (new_lst hu ?_ hn) (q ys hp hst)
  rw [← e]
  refine Hds.of (by simp) fun i v d h1 h2 => ?_
  rw [List.getElem?_map, h2] at h1
  have hd : d ∈ ys.map D.str := List.mem_of_getElem? h2
  obtain ⟨b, _, rfl⟩ := List.mem_map.mp hd
  simp only [Option.map_some, Option.some.injEq] at h1
  subst h1
  exact Hd.str.mpr rfl
end
end TC
namespace TC
open PySem PySem.Spec PyProof.Rows L2
variable [Cl]

section
variable {X : Cx} {e : Expr} {es : List Expr} {te : DE} {pos p : Pos} {tr : DA}
theorem da_star (ha : De X e te) (hr : Da X es tr) (hs : starEach (.Starred e p :: es) X.env = (true, eval e X.env) :: starEach es X.env := by rfl) (hK : X.K = Cl.K := by rfl) : Da X (.Starred e p :: es) (dStar te tr) := by
  refine ⟨fun w σ H env m Q' Q sl hu h c => wpA_of (StX.pa_star pe_self pa_self hs) ?_⟩
  refine ha.run w σ H env m _ _ sl hu h fun v d m1 H1 f1 u1 h1 q1 => ?_
  obtain ⟨l, hl, q1⟩ := q1
  have key : ∃ a us, v = .ref a ∧ Hds w H1 us l ∧ (SqT X.K H1 a us ∨ SqL X.K H1 a us) := by
    rcases hl with rfl | rfl
    · rw [Hd.tup] at h1
      obtain ⟨a, us, rfl, hp, hds⟩ := h1
      exact ⟨a, us, rfl, hds, .inl (hp.sq hK)⟩
    · rw [Hd.lst] at h1
      obtain ⟨a, us, rfl, na, hp, hds⟩ := h1
      exact ⟨a, us, rfl, hds, .inr (SqL.of hp)⟩
  obtain ⟨a, us, rfl, hds, hq⟩ := key
  refine ⟨a, us, rfl, hq, ?_⟩
  refine hr.run w σ H1 env m1 _ _ (sl.fr f1) u1 q1 fun vs ds m2 H2 f2 u2 h2 q2 => ?_
  exact c _ _ _ _ (f1.trans f2) u2 ((hds.fr f2).app h2) q2
end

/-! ### keywords -/
def wpK (X : Cx) (kws : List Keyword) : TA := fun σ H Q => ∀ (pos : Pos) (pins : List (Addr × Obj)) (s : Shared), Inv X pins σ H s → wpAny (model X.prog X.w) X.A (evalAll ((backToKw pos (keywordEach kws X.env)).map (·.2))) (AP X pins σ Q) X.xe s
theorem pk_self {X : Cx} {kws : List Keyword} : PK X kws (wpK X kws) := ⟨fun pos pins s σ H Q I h => h pos pins s I⟩
theorem wpK_of {X : Cx} {kws : List Keyword} {t : TA} (h : PK X kws t) {σ H Q} (q : t σ H Q) : wpK X kws σ H Q := fun pos pins s I => h.run pos pins s σ H Q I q
structure Dk (X : Cx) (kws : List Keyword) (t : DA) : Prop where
  run : ∀ w σ H env m Q' Q, Sls w H σ env → UI w m H → t env m Q' → Cts w H Q' Q → wpK X kws σ H Q
section
variable {X : Cx} {e : Expr} {es : List Expr} {kws : List Keyword} {te : DE} {pos p kpos : Pos} {t tk : DA} {nm : Option Str} {k : Nat} {f : Addr} {fd : FuncData} {ps ks : List Str} {sp : DSp} {x : Str}
theorem dk_nil : Dk X [] dNil := ⟨fun w σ H env m Q' Q hs hu h c => wpK_of pk_nil (c _ _ _ _ (Fr.refl _ _) hu .nil h)⟩
theorem dk_cons (ha : De X e te) (hr : Dk X kws t) : Dk X (⟨nm, e, kpos⟩ :: kws) (dCons te t) := by
  refine ⟨fun w σ H env m Q' Q sl hu h c => wpK_of (pk_cons pe_self pk_self) ?_⟩
  refine ha.run w σ H env m _ _ sl hu h fun v d m1 H1 f1 u1 h1 q1 => ?_
  refine hr.run w σ H1 env m1 _ _ (sl.fr f1) u1 q1 fun vs ds m2 H2 f2 u2 h2 q2 => ?_
  exact c _ _ _ _ (f1.trans f2) u2 (.cons (h1.fr f2) h2) q2
/-- f(k = v, ..): g puts the values in the parameters' order -/
theorem de_callK0 {g : List Value → List Value → List Value} {gV : List V → List V → List V} {gD : List D → List D} (F : FnOk X.prog X.w X.K X.mg X.base CX0 k f fd ps (spD sp)) (hr : Room k X.A) (hm : X.mg x = some (.ref f)) (hk : PySem.W.keepIn X.K (.ref f) = true) (hb : KBn X.K fd ps 0 ks g gV)
    (hgD : ∀ w H vs ds, vs.length = ks.length → Hds w H vs ds → Hds w H (gV [] vs) (gD ds)) (hkw : Dk X kws tk) (hg : Gl X x := by rfl)
    (hall : (backToKw pos (keywordEach kws X.env)).all (·.1.isSome) = true := by rfl) (hks : (backToKw pos (keywordEach kws X.env)).filterMap (·.1) = ks := by rfl) (hdb : (x == ("__debug__" : Str)) = false := by decide)
    (hpl : ((backTo pos (starEach [] X.env)).any (·.1) || (backToKw pos (keywordEach kws X.env)).any (·.1.isNone)) = false := by rfl) :
    De X (.Call (.Name x p) [] kws pos) (fun env m Q => tk env m fun ds m1 => ds.length = ks.length ∧ sp (gD ds) m1 Q) := by
  refine ⟨fun w σ H env m Q' Q sl hu h c pins s I => ?_⟩
  refine wpAny_Call_Name_kw (ld_glob I hg hm ?_ hdb)
  refine PySem.W.callWith_KW0 (h₀ := X.base) I.ok.mod.kin hk hall ?_ hpl
  refine thn (hkw.run w σ H env m _ (fun zs H1 => zs.length = ks.length ∧ spD sp (gV [] zs) H1 Q E0) sl hu h (fun vs ds m1 H1 f1 u1 h1 q1 => ?_) pos pins s I) fun ws s2 ⟨zs, H2, I2, rz, l2, q2⟩ => ⟨I2.kIn, ?_⟩
  · have hl : vs.length = ks.length := h1.len.trans q1.1
    exact ⟨hl, w, gD ds, m1, _, hgD w H1 vs ds hl h1, u1, q1.2, c.from f1⟩
  · rw [hks]
    exact run_fnN F hr hb pass0 I2 .nil rz rfl l2 q2
end

/-! ### targets -/
abbrev DG := D → Env → (Env → Prop) → Prop
def wpG (X : Cx) (tg : Expr) : TG := fun v σ H Q => ∀ pins s u, Inv X pins σ H s → RelV v u → wpAny (model X.prog X.w) X.A (assign tg X.env u) (fun _ s' => ∃ σ' H', Inv X pins σ' H' s' ∧ Q σ' H') X.xe s
theorem pg_self {X : Cx} {tg : Expr} : PG X tg (wpG X tg) := ⟨fun pins s σ H v u Q I r h => h pins s u I r⟩
/-- is: the slots that it stores -/
structure Dg (X : Cx) (tg : Expr) (is : List Nat) (t : DG) : Prop where
  run : ∀ w σ H env m v d Q' (Q : L2.St → Hp → Prop), Sls w H σ env → UI w m H → Hd w H v d → t d env Q' →
    (∀ σ' env', Sls w H σ' env' → (∀ vs : List Nat, (∀ i ∈ is, i ∈ vs) → L2.wipe σ' vs = L2.wipe σ vs) → Q' env' → Q σ' H) → wpG X tg v σ H Q
theorem wipe_get (σ : L2.St) : ∀ (vs : List Nat) (j : Nat), (L2.wipe σ vs)[j]? = if j ∈ vs ∧ j < σ.length then some none else σ[j]?
  | [], j => by simp [L2.wipe]
  | v :: vs, j => by
    unfold L2.wipe
    by_cases hv : v = j
    · subst hv
      by_cases hl : v < σ.length
      · rw [List.getElem?_set_self (by rw [wipe_length]; exact hl)]
        simp [hl]
      · rw [List.getElem?_eq_none (by rw [List.length_set, wipe_length]; omega)]
        simp [hl]
    · rw [List.getElem?_set_ne hv, wipe_get σ vs j]
      simp only [List.mem_cons]
      by_cases hm : j ∈ vs
      · simp [hm]
      · have : ¬ j = v := fun z => hv z.symm
        simp [hm, this]
theorem wipe_set {σ : L2.St} {i : Nat} {o : Option V} {vs : List Nat} (h : i ∈ vs) : L2.wipe (σ.set i o) vs = L2.wipe σ vs := by
  apply List.ext_getElem?
  intro j
  rw [wipe_get, wipe_get, List.length_set]
  by_cases hj : j ∈ vs ∧ j < σ.length
  · rw [if_pos hj, if_pos hj]
  · rw [if_neg hj, if_neg hj]
    by_cases hij : i = j
    · subst hij
      have : ¬ i < σ.length := fun z => hj ⟨h, z⟩
      rw [List.getElem?_eq_none (by simpa using this), List.getElem?_eq_none (by simpa using this)]
    · rw [List.getElem?_set_ne hij]
theorem wipe_idem {σ : L2.St} {vs : List Nat} : L2.wipe (L2.wipe σ vs) vs = L2.wipe σ vs := by
  apply List.ext_getElem?
  intro j
  rw [wipe_get, wipe_get, wipe_length]
  by_cases hj : j ∈ vs ∧ j < σ.length
  · rw [if_pos hj, if_pos hj]
  · rw [if_neg hj, if_neg hj]
section
variable {X : Cx} {pos : Pos}
def dgName (i : Nat) : DG := fun d env Q => Q (env.set i (some d))
theorem dg_name {i : Nat} {x : Str} (hN : X.N.Nodup) (hi : X.N[i]? = some x := by rfl) (hx : Loc X.env.scope x := by first | exact Or.inl rfl | exact Or.inr rfl) (hf : X.fn x = true ∨ X.env.scope.names.lookup x = some .local := by first | exact .inl rfl | exact .inr rfl | assumption) :
    Dg X (.Name x pos) [i] (dgName i) := by
  refine ⟨fun w σ H env m v d Q' Q sl hu hd h c pins s u I r => (pg_name hN hi hx hf).run pins s σ H v u Q I r ?_⟩
  exact c _ _ (sl.set i hd) (fun vs hvs => wipe_set (hvs i (by simp))) h
def dgTup2 (i j : Nat) : DG := fun d env Q => ∃ a b, d = .tup [a, b] ∧ Q ((env.set i (some a)).set j (some b))
theorem dg_tup2 {i j : Nat} {x y : Str} {px py : Pos} {k : Nat} (hc : X.calm = true) (hN : X.N.Nodup) (hi : X.N[i]? = some x := by rfl) (hj : X.N[j]? = some y := by rfl) (hx : Loc X.env.scope x := by first | exact Or.inl rfl | exact Or.inr rfl) (hy : Loc X.env.scope y := by first | exact Or.inl rfl | exact Or.inr rfl)
    (hf : X.fn x = true ∨ X.env.scope.names.lookup x = some .local := by first | exact .inl rfl | exact .inr rfl | assumption) (hf2 : X.fn y = true ∨ X.env.scope.names.lookup y = some .local := by first | exact .inl rfl | exact .inr rfl | assumption)
    (hs1 : (assignEach [.Name x px, .Name y py] X.env).map (·.2) = assign (.Name x px) X.env :: (assignEach [.Name y py] X.env).map (·.2) := by rfl) (hs2 : (assignEach [.Name y py] X.env).map (·.2) = assign (.Name y py) X.env :: (assignEach [] X.env).map (·.2) := by rfl)
    (hn : (assignEach [.Name x px, .Name y py] X.env).length = 2 := by rfl) (hst : (assignEach [.Name x px, .Name y py] X.env).findIdx? (·.1) = none := by rfl) (hK : X.K = Cl.K := by rfl) :
    Dg X (.Tuple [.Name x px, .Name y py] k pos) [i, j] (dgTup2 i j) := by
  refine ⟨fun w σ H env m v d Q' Q sl hu hd h c pins s u I r => (pg_tup hc (pgs_cons (pg_name hN hi hx hf) (pgs_cons (pg_name hN hj hy hf2) pgs_nil hs2) hs1) hn hst).run pins s σ H v u Q I r ?_⟩
  obtain ⟨a, b, rfl, q⟩ := h
  rw [Hd.tup] at hd
  obtain ⟨p, vs, rfl, hp, hds⟩ := hd
  obtain ⟨v1, r1, rfl, h1, h2⟩ := hds.uncons
  obtain ⟨v2, r2, rfl, h3, h4⟩ := h2.uncons
  cases h4.unnil
  refine ⟨p, _, rfl, hp.sq hK, rfl, v1, _, rfl, v2, _, rfl, rfl, ?_⟩
  refine c _ _ ((sl.set i h1).set j h3) (fun vs hvs => ?_) q
  rw [wipe_set (hvs j (by simp)), wipe_set (hvs i (by simp))]
end

/-! ### what is walked -/
/-- a later world: what is new in it was not there at H0 -/
def Gr (w w2 : W) (H0 : Hp) : Prop := w2.u = w.u ∧ (∀ a ∈ w.ex, a ∈ w2.ex) ∧ (∀ a ∈ w2.ex, a ∈ w.ex ∨ H0 a = none) ∧ ∀ a ∈ w.ce, a ∈ w2.ce
theorem Gr.refl (w : W) (H : Hp) : Gr w w H := ⟨rfl, fun _ h => h, fun _ h => .inl h, fun _ h => h⟩
theorem Gr.av {w w2 : W} {H0 : Hp} (g : Gr w w2 H0) {a : Addr} {o : HO} (n : ¬ w.av a) (e : H0 a = some o) : ¬ w2.av a := fun z => by
  rcases z with z | z
  · exact n (.inl (g.1 ▸ z))
  · rcases g.2.2.1 a z with h | h
    · exact n (.inr h)
    · rw [e] at h; cases h
mutual
theorem Hd.grow {w w2 : W} {H : Hp} (g : Gr w w2 H) {v : V} : ∀ {d : D}, Hd w H v d → Hd w2 H v d
  | .non, h => by rw [Hd.non] at h ⊢; exact h
  | .bl b, h => by rw [Hd.bl] at h ⊢; exact h
  | .int i, h => by rw [Hd.int] at h ⊢; exact h
  | .str s, h => by rw [Hd.str] at h ⊢; exact h
  | .lst l, h => by
    rw [Hd.lst] at h ⊢
    obtain ⟨a, vs, e, n, ha, hs⟩ := h
    exact ⟨a, vs, e, g.av n ha, ha, Hds.grow g hs⟩
  | .tup l, h => by
    rw [Hd.tup] at h ⊢
    obtain ⟨a, vs, e, ha, hs⟩ := h
    exact ⟨a, vs, e, ha.mono (fun o n e => g.av n e) (fun o _ e => e), Hds.grow g hs⟩
  | .obj c l, h => by
    unfold Hd at h ⊢
    obtain ⟨a, dx, vs, e, n, n2, hd, ha, hs⟩ := h
    exact ⟨a, dx, vs, e, g.av n ha, g.av n2 hd, hd, ha, Hds.grow g hs⟩
  | .urn, h => by unfold Hd at h ⊢; rw [g.1]; exact h
  | .cell p l, h => by
    unfold Hd at h ⊢
    obtain ⟨e, m, n, vs, ha, hs⟩ := h
    exact ⟨e, g.2.2.2 _ m, by rw [g.1]; exact n, vs, ha, Hds.grow g hs⟩
  | .dct l, h => by
    unfold Hd at h ⊢
    obtain ⟨a, e, n, ha⟩ := h
    exact ⟨a, e, g.av n ha, ha⟩
  | .tupz l, h => by
    unfold Hd at h ⊢
    obtain ⟨a, e, n, o, ha, hc⟩ := h
    exact ⟨a, e, g.av n ha, o, ha, hc⟩
theorem Hds.grow {w w2 : W} {H : Hp} (g : Gr w w2 H) {vs : List V} : ∀ {ds : List D}, Hds w H vs ds → Hds w2 H vs ds
  | [], h => by unfold Hds at h ⊢; exact h
  | d :: ds, h => by
    unfold Hds at h ⊢
    obtain ⟨x, xs, e, h1, h2⟩ := h
    exact ⟨x, xs, e, Hd.grow g h1, Hds.grow g h2⟩
end
mutual
/-- what holds in the later world holds in the earlier one -/
theorem Hd.shrink {w w2 : W} {H0 : Hp} (g : Gr w w2 H0) (gc : ∀ a ∈ w2.ce, a ∈ w.ce) {H : Hp} {v : V} : ∀ {d : D}, Hd w2 H v d → Hd w H v d
  | .non, h => by rw [Hd.non] at h ⊢; exact h
  | .bl b, h => by rw [Hd.bl] at h ⊢; exact h
  | .int i, h => by rw [Hd.int] at h ⊢; exact h
  | .str s, h => by rw [Hd.str] at h ⊢; exact h
  | .lst l, h => by
    rw [Hd.lst] at h ⊢
    obtain ⟨a, vs, e, n, ha, hs⟩ := h
    exact ⟨a, vs, e, fun z => n (z.elim (fun z => .inl (by rw [g.1]; exact z)) fun z => .inr (g.2.1 _ z)), ha, Hds.shrink g gc hs⟩
  | .tup l, h => by
    rw [Hd.tup] at h ⊢
    obtain ⟨a, vs, e, ha, hs⟩ := h
    exact ⟨a, vs, e, ha.mono (fun o n _ z => n (z.elim (fun z => .inl (by rw [g.1]; exact z)) fun z => .inr (g.2.1 _ z))) (fun o _ e => e), Hds.shrink g gc hs⟩
  | .obj c l, h => by
    unfold Hd at h ⊢
    obtain ⟨a, dx, vs, e, n, n2, hd, ha, hs⟩ := h
    exact ⟨a, dx, vs, e, fun z => n (z.elim (fun z => .inl (by rw [g.1]; exact z)) fun z => .inr (g.2.1 _ z)), fun z => n2 (z.elim (fun z => .inl (by rw [g.1]; exact z)) fun z => .inr (g.2.1 _ z)), hd, ha, Hds.shrink g gc hs⟩
  | .urn, h => by unfold Hd at h ⊢; rw [g.1] at h; exact h
  | .cell p l, h => by
    unfold Hd at h ⊢
    obtain ⟨e, m, n, vs, ha, hs⟩ := h
    exact ⟨e, gc _ m, by rw [← g.1]; exact n, vs, ha, Hds.shrink g gc hs⟩
  | .dct l, h => by
    unfold Hd at h ⊢
    obtain ⟨a, e, n, ha⟩ := h
    exact ⟨a, e, fun z => n (z.elim (fun z => .inl (by rw [g.1]; exact z)) fun z => .inr (g.2.1 _ z)), ha⟩
  | .tupz l, h => by
    unfold Hd at h ⊢
    obtain ⟨a, e, n, o, ha, hc⟩ := h
    exact ⟨a, e, fun z => n (z.elim (fun z => .inl (by rw [g.1]; exact z)) fun z => .inr (g.2.1 _ z)), o, ha, hc⟩
theorem Hds.shrink {w w2 : W} {H0 : Hp} (g : Gr w w2 H0) (gc : ∀ a ∈ w2.ce, a ∈ w.ce) {H : Hp} {vs : List V} : ∀ {ds : List D}, Hds w2 H vs ds → Hds w H vs ds
  | [], h => by unfold Hds at h ⊢; exact h
  | d :: ds, h => by
    unfold Hds at h ⊢
    obtain ⟨x, xs, e, h1, h2⟩ := h
    exact ⟨x, xs, e, Hd.shrink g gc h1, Hds.shrink g gc h2⟩
end
theorem Sls.grow {w w2 : W} {H : Hp} (g : Gr w w2 H) {σ : L2.St} {env : Env} (h : Sls w H σ env) : Sls w2 H σ env :=
  ⟨h.1, fun i d e => let ⟨v, e1, h1⟩ := h.2 i d e; ⟨v, e1, h1.grow g⟩⟩
theorem Sls.shrink {w w2 : W} {H0 H : Hp} (g : Gr w w2 H0) (gc : ∀ a ∈ w2.ce, a ∈ w.ce) {σ : L2.St} {env : Env} (h : Sls w2 H σ env) : Sls w H σ env :=
  ⟨h.1, fun i d e => let ⟨v, e1, h1⟩ := h.2 i d e; ⟨v, e1, h1.shrink g gc⟩⟩
/-- all that was there at H0 and may not change in the earlier world has not changed -/
theorem Fr.shrink {w w2 : W} {H0 H1 H : Hp} (g : Gr w w2 H0) (f : Fr w2 H1 H) : Fr w H1 H := fun b o n e => f b o (by rw [g.1]; exact n) e
theorem Fr.widen {w w2 : W} {H0 H1 H : Hp} (g : Gr w w2 H0) (f : Fr w H1 H) : Fr w2 H1 H := fun b o n e => f b o (by rw [← g.1]; exact n) e

/-- items ds come by J from the heap H0 on, in every later world -/
structure Walks (w : W) (H0 : Hp) (J : It) (ds : List D) : Prop where
  wk : ∃ (G : Hp → Prop) (Y : Nat → Hp → V → Hp → Prop), Walk J ds.length G Y ∧ ∀ w2, Gr w w2 H0 → ∀ H1, Keep w2 ds H0 H1 → G H1 ∧
    ∀ i x H2 m, i < ds.length → UI w2 m H1 → Y i H1 x H2 → Fr w2 H1 H2 ∧ UI w2 m H2 ∧ (∀ b, H2 b = none → H1 b = none) ∧ ∃ d, ds[i]? = some d ∧ Hd w2 H2 x d
abbrev DI := Env → Nat → (List D → Nat → Prop) → Prop
def wpI (X : Cx) (tg iter : Expr) : TI := fun σ H R => ∀ pins s, Inv X pins σ H s → wpAny (model X.prog X.w) X.A (eval iter X.env) (fun v s1 => wpAny (model X.prog X.w) X.A (pyIter v) (PIE X pins σ tg R) X.xe s1) X.xe s
theorem pi_self {X : Cx} {tg iter : Expr} : PI X tg iter (wpI X tg iter) := ⟨fun pins s σ H R I h => h pins s I⟩
theorem wpI_of {X : Cx} {tg iter : Expr} {t : TI} (h : PI X tg iter t) {σ H R} (q : t σ H R) : wpI X tg iter σ H R := fun pins s I => h.run pins s σ H R I q
structure Di (X : Cx) (tg iter : Expr) (t : DI) : Prop where
  run : ∀ w σ H env m Q' (R : It → Hp → Prop), Sls w H σ env → UI w m H → t env m Q' → (∀ J ds m' H', Fr w H H' → UI w m' H' → Walks w H' J ds → Q' ds m' → R J H') → wpI X tg iter σ H R
theorem TupAt.at {w w2 : W} {H0 H1 : Hp} {a : Addr} {vs : List V} {ds : List D} (h : TupAt w H0 a vs) (g : Gr w w2 H0) (k : Keep w2 ds H0 H1) : TupAt w2 H1 a vs :=
  h.mono (fun o n e => g.av n e) fun o n e => k.at (g.av n e) e
theorem walks_seq {w : W} {H0 : Hp} {K : PySem.W.Frag} {a : Addr} {vs : List V} {ds : List D} (na : ¬ w.av a) (ha : H0 a = some (.lst vs)) (h : Hds w H0 vs ds) : Walks w H0 (Itl K a) ds := by
  have wl := walk_list (K := K) (a := a) (xs := vs)
  rw [h.len] at wl
  refine ⟨⟨_, _, wl, fun w2 g H1 f => ⟨SqL.of (f.at (g.av na ha) ha), fun i x H2 m hi hu y => ?_⟩⟩⟩
  obtain ⟨rfl, e⟩ := y
  refine ⟨Fr.refl _ _, hu, fun _ z => z, ds[i], by simp [hi], ?_⟩
  obtain ⟨v, e2, hv⟩ := h.get (i := i) (d := ds[i]) (by simp [hi])
  rw [e] at e2
  cases e2
  exact f.hd (List.getElem_mem hi) (hv.grow g)
theorem walks_tup {w : W} {H0 : Hp} {K : PySem.W.Frag} {a : Addr} {vs : List V} {ds : List D} (hK : K = Cl.K) (ha : TupAt w H0 a vs) (h : Hds w H0 vs ds) : Walks w H0 (Itt K a) ds := by
  have wl := walk_tup (K := K) (a := a) (xs := vs)
  rw [h.len] at wl
  refine ⟨⟨_, _, wl, fun w2 g H1 f => ⟨(ha.at g f).sq hK, fun i x H2 m hi hu y => ?_⟩⟩⟩
  obtain ⟨rfl, e⟩ := y
  refine ⟨Fr.refl _ _, hu, fun _ z => z, ds[i], by simp [hi], ?_⟩
  obtain ⟨v, e2, hv⟩ := h.get (i := i) (d := ds[i]) (by simp [hi])
  rw [e] at e2
  cases e2
  exact f.hd (List.getElem_mem hi) (hv.grow g)
/-- 0, 1, .. -/
def nats (n : Nat) : List D := (List.range n).map fun (i : Nat) => D.int (i : Int)
theorem nats_get {n i : Nat} (h : i < n) : (nats n)[i]? = some (.int (i : Int)) := by simp [nats, h]
theorem walks_range {w : W} {H0 : Hp} {n : Nat} : Walks w H0 (Itr 0 n) (nats n) := by
  have wl := walk_range (lo := 0) (n := n)
  have hl : (nats n).length = n := by simp [nats]
  refine ⟨⟨_, _, by rw [hl]; exact wl, fun w2 g H1 f => ⟨trivial, fun i x H2 m hi hu y => ?_⟩⟩⟩
  obtain ⟨rfl, e⟩ := y
  refine ⟨Fr.refl _ _, hu, fun _ z => z, _, nats_get (by rw [hl] at hi; exact hi), ?_⟩
  rw [e, Hd.int]
  show V.int (0 + (i : Int)) = V.int (i : Int)
  rw [Int.zero_add]
section
variable {X : Cx} {tg e e2 : Expr} {te : DE} {p pos : Pos}
theorem di_lst (h : De X e te) (hp : PI X tg e (iList X.K (wpE X e))) : Di X tg e (fun env m Q => te env m fun d m1 => ∃ l, d = .lst l ∧ Q l m1) := by
  refine ⟨fun w σ H env m Q' R sl hu hh c => wpI_of hp ?_⟩
  refine h.run w σ H env m _ _ sl hu hh fun v d m1 H1 f1 u1 h1 q1 => ?_
  obtain ⟨l, rfl, q⟩ := q1
  rw [Hd.lst] at h1
  obtain ⟨a, vs, rfl, na, ha, hds⟩ := h1
  exact ⟨a, rfl, ⟨_, SqL.of ha⟩, c _ _ _ _ f1 u1 (walks_seq na ha hds) q⟩
theorem di_tup (h : De X e te) (hp : PI X tg e (iTup X.K (wpE X e))) (hK : X.K = Cl.K := by rfl) : Di X tg e (fun env m Q => te env m fun d m1 => ∃ l, d = .tup l ∧ Q l m1) := by
  refine ⟨fun w σ H env m Q' R sl hu hh c => wpI_of hp ?_⟩
  refine h.run w σ H env m _ _ sl hu hh fun v d m1 H1 f1 u1 h1 q1 => ?_
  obtain ⟨l, rfl, q⟩ := q1
  rw [Hd.tup] at h1
  obtain ⟨a, vs, rfl, ha, hds⟩ := h1
  exact ⟨a, rfl, ⟨_, ha.sq hK⟩, c _ _ _ _ f1 u1 (walks_tup hK ha hds) q⟩
theorem di_range (hm : X.mg "range" = none) (h : De X e te) (hg : Gl X "range" := by rfl) (hs : starEach [e] X.env = [(false, eval e X.env)] := by rfl) (hs' : starEach [e] X.env = (false, eval e X.env) :: starEach [] X.env := by rfl) :
    Di X tg (.Call (.Name "range" p) [e] [] pos) (fun env m Q => te env m fun d m1 => ∃ n : Nat, d = .int (n : Int) ∧ n < 2 ^ 62 ∧ Q (nats n) m1) := by
  refine ⟨fun w σ H env m Q' R sl hu hh c => wpI_of (pi_range1 hg hm (pa_cons pe_self pa_nil hs') hs) ?_⟩
  refine h.run w σ H env m _ _ sl hu hh fun v d m1 H1 f1 u1 h1 q1 => ?_
  obtain ⟨n, rfl, hn, q⟩ := q1
  rw [Hd.int] at h1
  subst h1
  refine ⟨(n : Int), rfl, by omega, by omega, ?_⟩
  rw [Int.toNat_natCast]
  exact c _ _ _ _ f1 u1 walks_range q
end

/-! ### comprehensions -/
/-- a step's reading in a block: whatever the block's own frame -/
structure Blk (X : Cx) (scope : Scope) (Y : Cx) : Prop where
  ex : ∃ (s : Shared) (H : Hp) (C : Addr) (cl : List (Str × Addr)) (fp : List Addr), Y = X.blk s H scope (compEnvC scope cl C X.env) fp
def dYes : DT := fun _ m Q => Q true m
structure Dts (X : Cx) (ifs : List Expr) (t : DT) : Prop where
  run : ∀ w σ H env m Q' Q, Sls w H σ env → UI w m H → t env m Q' → Ctb w H Q' Q → ∀ pins s, Inv X pins σ H s → wpAny (model X.prog X.w) X.A (forIn ifs true fun c r => if r = true then do let ok ← isTrue c X.env (eval c X.env); pure (ForInStep.yield ok) else pure (ForInStep.yield r)) (TP X pins σ Q) X.xe s
theorem dts_nil {X : Cx} : Dts X [] dYes := ⟨fun w σ H env m Q' Q sl hu h c pins s I => pts_nil.run pins s σ H Q I (c _ _ _ (Fr.refl _ _) hu h)⟩
theorem dts_one {X : Cx} {c : Expr} {t : DT} (h : Dt X c t) : Dts X [c] t := ⟨fun w σ H env m Q' Q sl hu hh k pins s I => (pts_one pt_self).run pins s σ H Q I (h.run w σ H env m Q' Q sl hu hh k)⟩
/-- the comprehension by data: P says, ahead of the turn i, what is made so far -/
def lcIn (dg : DG) (dt : DT) (de : DE) (env : Env) (ds : List D) (m1 : Nat) (Q : List D → Nat → Prop) : Prop := ∃ P : Nat → List D → Nat → Prop, P 0 [] m1 ∧
  (∀ i d acc mm, ds[i]? = some d → P i acc mm → dg d env fun env2 => dt env2 mm fun b m2 => if b = true then de env2 m2 fun y m3 => P (i + 1) (acc ++ [y]) m3 else P (i + 1) acc m2) ∧
  ∀ acc mm, P ds.length acc mm → Q acc mm
def dLc (ti : DI) (dg : DG) (dt : DT) (de : DE) (vs : List Nat) : DE := fun env m Q => ti env m fun ds m1 => ds.length ≤ sizeLine ∧ lcIn dg dt de (wipeE env vs) ds m1 fun acc mm => Q (.lst acc) mm
/-- the heap as it stands ahead of a turn -/
structure LcI (w2 : W) (H1 : Hp) (D0 : Addr) (P : List D → Nat → Prop) (k : Nat) (H : Hp) : Prop where
  ex : ∃ acc mm vs, P acc mm ∧ H D0 = some (.lst vs) ∧ Hds w2 H vs acc ∧ acc.length ≤ k ∧ UI w2 mm H ∧ Fr w2 H1 H
theorem UI.put {w2 : W} {D0 : Addr} (hm : D0 ∈ w2.ex) (hn : w2.u ≠ some D0) {H : Hp} {o : HO} {mm : Nat} (hu : UI w2 mm H) : UI w2 mm (L2.upd H D0 o) := by
  refine ⟨fun b e => ?_, fun b hb => ?_⟩
  · have hbD : b ≠ D0 := fun z => hn (z ▸ e)
    obtain ⟨x, y, z, e', r⟩ := hu.1 b e
    exact ⟨x, y, z, by rw [upd_ne hbD]; exact e', r⟩
  · by_cases hbD : b = D0
    · exact ⟨_, by rw [hbD, upd_same]⟩
    · obtain ⟨o, e⟩ := hu.2 b hb
      exact ⟨o, by rw [upd_ne hbD]; exact e⟩
theorem UI.first {w : W} {D0 : Addr} {H : Hp} {o : HO} {mm : Nat} (hu : UI w mm H) (hD : H D0 = none) : UI ⟨w.u, D0 :: w.ex, w.ce, fun a h => List.mem_cons_of_mem _ (w.sub a h)⟩ mm (L2.upd H D0 o) := by
  refine ⟨fun b e => (hu.upd (o := o) hD).1 b e, fun b hb => ?_⟩
  rcases List.mem_cons.mp hb with rfl | hb
  · exact ⟨_, upd_same⟩
  · exact (hu.upd (o := o) hD).2 b hb
theorem UI.less {w w2 : W} {H0 H : Hp} {m : Nat} (g : Gr w w2 H0) (hu : UI w2 m H) : UI w m H := ⟨fun a e => hu.1 a (by rw [g.1]; exact e), fun a ha => hu.2 a (g.2.1 a ha)⟩
theorem gr_first {w : W} {D0 : Addr} {H1 : Hp} (hD : H1 D0 = none) : Gr w ⟨w.u, D0 :: w.ex, w.ce, fun a h => List.mem_cons_of_mem _ (w.sub a h)⟩ H1 := ⟨rfl, fun a ha => List.mem_cons_of_mem _ ha, fun a ha => by
    rcases List.mem_cons.mp ha with rfl | ha
    · exact .inr hD
    · exact .inl ha, fun a ha => ha⟩
/-- a block's parts, whatever its own frame -/
def gB (X : Cx) (scope : Scope) (tg : Expr) : TG := fun v σ H Q => ∀ (s : Shared) (H0 : Hp) (C : Addr) (cl : List (Str × Addr)) (fp : List Addr), wpG (X.blk s H0 scope (compEnvC scope cl C X.env) fp) tg v σ H Q
def ttB (X : Cx) (scope : Scope) (ifs : List Expr) : TT := fun σ H Q => ∀ (s0 : Shared) (H0 : Hp) (C : Addr) (cl : List (Str × Addr)) (fp : List Addr) pins s, Inv (X.blk s0 H0 scope (compEnvC scope cl C X.env) fp) pins σ H s → wpAny (model X.prog X.w) X.A (forIn ifs true fun c r => if r = true then do let ok ← isTrue c (compEnvC scope cl C X.env) (eval c (compEnvC scope cl C X.env)); pure (ForInStep.yield ok) else pure (ForInStep.yield r)) (TP (X.blk s0 H0 scope (compEnvC scope cl C X.env) fp) pins σ Q) (fun _ _ => False) s
def teB (X : Cx) (scope : Scope) (elt : Expr) : TE := fun σ H Q => ∀ (s : Shared) (H0 : Hp) (C : Addr) (cl : List (Str × Addr)) (fp : List Addr), wpE (X.blk s H0 scope (compEnvC scope cl C X.env) fp) elt σ H Q
theorem pg_gB {X : Cx} {scope : Scope} {tg : Expr} (s : Shared) (H : Hp) (C : Addr) (cl : List (Str × Addr)) (fp : List Addr) : PG (X.blk s H scope (compEnvC scope cl C X.env) fp) tg (gB X scope tg) := ⟨fun pins s1 σ H1 v u Q I r q => q s H C cl fp pins s1 u I r⟩
theorem pts_ttB {X : Cx} {scope : Scope} {ifs : List Expr} (s : Shared) (H : Hp) (C : Addr) (cl : List (Str × Addr)) (fp : List Addr) : PTs (X.blk s H scope (compEnvC scope cl C X.env) fp) ifs (ttB X scope ifs) := ⟨fun pins s1 σ H1 Q I q => q s H C cl fp pins s1 I⟩
theorem pe_teB {X : Cx} {scope : Scope} {elt : Expr} (s : Shared) (H : Hp) (C : Addr) (cl : List (Str × Addr)) (fp : List Addr) : PE (X.blk s H scope (compEnvC scope cl C X.env) fp) elt (teB X scope elt) := ⟨fun pins s1 σ H1 Q I q => q s H C cl fp pins s1 I⟩
theorem lc_run {X : Cx} {elt tg iter : Expr} {ifs : List Expr} {scope : Scope} {own : List (Str × Nat)} {is : List Nat} {ti : DI} {dg : DG} {dt : DT} {de : DE} (hi : Di X tg iter ti)
    (hg : ∀ (s : Shared) (H : Hp) (C : Addr) (cl : List (Str × Addr)) (fp : List Addr), Dg (X.blk s H scope (compEnvC scope cl C X.env) fp) tg is dg) (ht : ∀ (s : Shared) (H : Hp) (C : Addr) (cl : List (Str × Addr)) (fp : List Addr), Dts (X.blk s H scope (compEnvC scope cl C X.env) fp) ifs dt)
    (he : ∀ (s : Shared) (H : Hp) (C : Addr) (cl : List (Str × Addr)) (fp : List Addr), De (X.blk s H scope (compEnvC scope cl C X.env) fp) elt de) (his : ∀ i ∈ is, i ∈ own.map (·.2))
    {w : W} {σ : L2.St} {H : Hp} {env : Env} {m : Nat} {Q' : D → Nat → Prop} {Q : VK} (sl : Sls w H σ env) (hu : UI w m H) (h : dLc ti dg dt de (own.map (·.2)) env m Q') (c : Ct w H Q' Q) :
    tLc (wpI X tg iter) (gB X scope tg) (ttB X scope ifs) (teB X scope elt) (own.map (·.2)) σ H Q := by
  refine hi.run w σ H env m _ _ sl hu h fun J ds m1 H1 f1 u1 hw q1 D0 hD => ?_
  obtain ⟨hsz, P, p0, step, fin⟩ := q1
  obtain ⟨G, Y, wk, ww⟩ := hw.wk
  have gr : Gr w ⟨w.u, D0 :: w.ex, w.ce, fun a h => List.mem_cons_of_mem _ (w.sub a h)⟩ H1 := gr_first hD
  have nuD : w.u ≠ some D0 := fun z => by
    obtain ⟨x, y, z, e', _⟩ := u1.1 D0 z
    rw [hD] at e'; cases e'
  have u0 : UI ⟨w.u, D0 :: w.ex, w.ce, fun a h => List.mem_cons_of_mem _ (w.sub a h)⟩ m1 (upd H1 D0 (.lst [])) := u1.first hD
  generalize hw2 : (⟨w.u, D0 :: w.ex, w.ce, fun a h => List.mem_cons_of_mem _ (w.sub a h)⟩ : W) = w2 at gr u0
  have mD : D0 ∈ w2.ex := by rw [← hw2]; exact List.mem_cons_self ..
  have nuD2 : w2.u ≠ some D0 := by rw [← hw2]; exact nuD
  have aD : w2.av D0 := .inr mD
  have gc : ∀ a ∈ w2.ce, a ∈ w.ce := by rw [← hw2]; exact fun a h => h
  have ncD : D0 ∉ w2.ce := fun z => by
    obtain ⟨o, e⟩ := u1.2 D0 (w.sub _ (gc _ z))
    rw [hD] at e; cases e
  have sl2 : Sls w2 (upd H1 D0 (.lst [])) (L2.wipe σ (own.map (·.2))) (wipeE env (own.map (·.2))) := (((sl.fr f1).wipe _).grow gr).fr (Fr.upd hD)
  have fr0 : Fr w2 H1 (upd H1 D0 (.lst [])) := Fr.upd hD
  have slAt : ∀ {H2 : Hp}, Fr w2 H1 H2 → Sls w2 H2 (L2.wipe σ (own.map (·.2))) (wipeE env (own.map (·.2))) := fun {H2} f => (((sl.fr f1).wipe _).grow gr).fr f
  refine lc_it wk (fun i H => LcI w2 H1 D0 (P i) i H) ⟨⟨[], m1, [], p0, upd_same, .nil, Nat.le_refl _, u0, fr0⟩⟩ (fun i H2 hi2 ⟨⟨acc, mm, vs, hp, hd, hh, hl, hu2, hf⟩⟩ => (ww w2 gr H2 (.inl hf)).1) (fun i x H2 H3 hlt ⟨⟨acc, mm, vs, hp, hd, hh, hl, hu2, hf⟩⟩ y => ?_) fun H2 ⟨⟨acc, mm, vs, hp, hd, hh, hl, hu2, hf⟩⟩ => ?_
  · obtain ⟨fy, uy, free, d, ed, hx⟩ := (ww w2 gr H2 (.inl hf)).2 i x H3 mm hlt hu2 y
    intro s0 H0 C cl fp
    refine (hg s0 H0 C cl fp).run w2 (L2.wipe σ (own.map (·.2))) H3 (wipeE env (own.map (·.2))) mm x d _ _ (slAt (hf.trans fy)) uy hx (step i d acc mm ed hp) fun σ2 env2 sl3 hwp q2 => ?_
    refine ⟨(hwp _ his).trans wipe_idem, ?_⟩
    intro s0 H0 C cl fp pins s I
    refine (ht s0 H0 C cl fp).run w2 σ2 H3 env2 mm _ _ sl3 uy q2 (fun b m4 H4 f4 u4 q4 => ?_) pins s I
    have fr4 := hf.trans (fy.trans f4)
    have hd4 : H4 D0 = some (.lst vs) := f4 _ _ nuD2 (fy _ _ nuD2 hd)
    cases b with
    | false =>
      refine iteF ?_
      rw [if_neg Bool.false_ne_true] at q4
      exact ⟨⟨acc, m4, vs, q4, hd4, (hh.fr fy).fr f4, Nat.le_succ_of_le hl, u4, fr4⟩⟩
    | true =>
      refine iteT ?_
      rw [if_pos rfl] at q4
      intro s0 H0 C cl fp
      refine (he s0 H0 C cl fp).run w2 σ2 H4 env2 m4 _ _ (sl3.fr f4) u4 q4 fun v dv m5 H5 f5 u5 h5 q5 => ?_
      have hd5 : H5 D0 = some (.lst vs) := f5 _ _ nuD2 hd4
      have fr5 := fr4.trans f5
      refine ⟨vs, hd5, by rw [hh.len]; omega, ⟨⟨acc ++ [dv], m5, vs ++ [v], q5, upd_same, ((((hh.fr fy).fr f4).fr f5).app (.cons h5 .nil)).write aD ncD, by rw [List.length_append]; exact Nat.succ_le_succ hl, u5.put mD nuD2, fun b o nb e => ?_⟩⟩⟩
      rw [upd_ne (ne_of_none e hD)]
      exact fr5 b o nb e
  · have hfw : Fr w H1 H2 := hf.shrink gr
    refine c _ _ mm H2 (f1.trans hfw) (hu2.less gr) ?_ (fin acc mm hp)
    rw [Hd.lst]
    exact ⟨D0, vs, rfl, u1.new hD, hd, hh.shrink gr gc⟩
theorem de_lc {X : Cx} {elt tg iter : Expr} {ifs : List Expr} {scope : Scope} {own : List (Str × Nat)} {is : List Nat} {pos : Pos} {ti : DI} {dg : DG} {dt : DT} {de : DE} (hc : X.calm = true) (hN : X.N.Nodup) (hi : Di X tg iter ti) (ok : BlkOk X.N X.env.scope scope own)
    (hg : ∀ (s : Shared) (H : Hp) (C : Addr) (cl : List (Str × Addr)) (fp : List Addr), Dg (X.blk s H scope (compEnvC scope cl C X.env) fp) tg is dg) (ht : ∀ (s : Shared) (H : Hp) (C : Addr) (cl : List (Str × Addr)) (fp : List Addr), Dts (X.blk s H scope (compEnvC scope cl C X.env) fp) ifs dt)
    (he : ∀ (s : Shared) (H : Hp) (C : Addr) (cl : List (Str × Addr)) (fp : List Addr), De (X.blk s H scope (compEnvC scope cl C X.env) fp) elt de) (his : ∀ i ∈ is, i ∈ own.map (·.2) := by decide) (hs : ∀ x, foldedSetIterable iter X.env x = pure x := by intro _; rfl) :
    De X (.ListComp elt [⟨tg, iter, ifs, 0⟩] scope pos) (dLc ti dg dt de (own.map (·.2))) :=
  ⟨fun w σ H env m Q' Q sl hu h c => wp_of (pe_lc (own := own) hc hN pi_self ok pg_gB pts_ttB pe_teB hs) (lc_run hi hg ht he his sl hu h c)⟩
end TC
namespace TC
open PySem PySem.Spec PyProof.Rows L2
variable [Cl]

/-! ### and, or, not, if-else -/
section
variable {X : Cx} {a b e : Expr} {rest : List Expr} {ta tb : DE} {da db : DT} {pos : Pos}
structure Dw (X : Cx) (e : Expr) (t : DT) : Prop where
  run : ∀ w σ H env m Q' Q, Sls w H σ env → UI w m H → t env m Q' → Ctb w H Q' Q → ∀ whole pins s, Inv X pins σ H s → wpAny (model X.prog X.w) X.A (isTrue e X.env whole) (TP X pins σ Q) X.xe s
def wpW (X : Cx) (e : Expr) : TT := fun σ H Q => ∀ whole pins s, Inv X pins σ H s → wpAny (model X.prog X.w) X.A (isTrue e X.env whole) (TP X pins σ Q) X.xe s
theorem pw_self : PW X e (wpW X e) := ⟨fun wh pins s σ H Q I h => h wh pins s I⟩
theorem Dw.wp (h : Dw X e da) {w σ H env m Q' Q} (sl : Sls w H σ env) (hu : UI w m H) (q : da env m Q') (c : Ctb w H Q' Q) : wpW X e σ H Q := h.run w σ H env m Q' Q sl hu q c
theorem Ctb.from {w : W} {H H1 : Hp} {Q' : Bool → Nat → Prop} {Q : Bool → Hp → Prop} (c : Ctb w H Q' Q) (f : Fr w H H1) : Ctb w H1 Q' Q := fun b m' H' g => c b m' H' (f.trans g)
def dAnd (t u : DT) : DT := fun env m Q => t env m fun c m1 => if c = true then u env m1 Q else Q false m1
def dOr (t u : DT) : DT := fun env m Q => t env m fun c m1 => if c = true then Q true m1 else u env m1 Q
def dNot (t : DT) : DT := fun env m Q => t env m fun c m1 => Q (!c) m1
theorem dw_and1 (ha : Dt X a da) : Dw X (.BoolOp .And [a] pos) da := ⟨fun w σ H env m Q' Q sl hu h c wh pins s I => (pw_and1 pt_self).run wh pins s σ H Q I (ha.run w σ H env m Q' Q sl hu h c)⟩
theorem dw_or1 (ha : Dt X a da) : Dw X (.BoolOp .Or [a] pos) da := ⟨fun w σ H env m Q' Q sl hu h c wh pins s I => (pw_or1 pt_self).run wh pins s σ H Q I (ha.run w σ H env m Q' Q sl hu h c)⟩
theorem dw_and (ha : Dt X a da) (hb : Dw X (.BoolOp .And (b :: rest) pos) db) : Dw X (.BoolOp .And (a :: b :: rest) pos) (dAnd da db) := by
  refine ⟨fun w σ H env m Q' Q sl hu h c wh pins s I => (pw_and pt_self pw_self).run wh pins s σ H Q I ?_⟩
  refine ha.run w σ H env m _ _ sl hu h fun k m1 H1 f1 u1 q1 => ?_
  cases k with
  | true => exact iteT (hb.wp (sl.fr f1) u1 (by simpa using q1) (c.from f1))
  | false => exact iteF (c _ _ _ f1 u1 (by simpa using q1))
theorem dw_or (ha : Dt X a da) (hb : Dw X (.BoolOp .Or (b :: rest) pos) db) : Dw X (.BoolOp .Or (a :: b :: rest) pos) (dOr da db) := by
  refine ⟨fun w σ H env m Q' Q sl hu h c wh pins s I => (pw_or pt_self pw_self).run wh pins s σ H Q I ?_⟩
  refine ha.run w σ H env m _ _ sl hu h fun k m1 H1 f1 u1 q1 => ?_
  cases k with
  | false => exact iteF (hb.wp (sl.fr f1) u1 (by simpa using q1) (c.from f1))
  | true => exact iteT (c _ _ _ f1 u1 (by simpa using q1))
theorem Dw.pt (h : Dw X e da) : Dt X e da := ⟨fun w σ H env m Q' Q sl hu q c pins s I => h.run w σ H env m Q' Q sl hu q c _ pins s I⟩
theorem dt_not (ha : Dt X a da) : Dt X (.UnaryOp .Not a pos) (dNot da) := by
  refine ⟨fun w σ H env m Q' Q sl hu h c => wpT_of (pt_not pt_self) ?_⟩
  exact ha.run w σ H env m _ _ sl hu h fun k m1 H1 f1 u1 q1 => c _ _ _ f1 u1 q1
def dAndV (ta tb : DE) : DE := fun env m Q => ta env m fun x m1 => ∃ c, x = .bl c ∧ if c = true then tb env m1 Q else Q (.bl false) m1
def dOrV (ta tb : DE) : DE := fun env m Q => ta env m fun x m1 => ∃ c, x = .bl c ∧ if c = true then Q (.bl true) m1 else tb env m1 Q
def dNotV (ta : DE) : DE := fun env m Q => ta env m fun x m1 => ∃ c, x = .bl c ∧ Q (.bl (!c)) m1
theorem de_one {op} (h : De X a ta) : De X (.BoolOp op [a] pos) ta := ⟨fun w σ H env m Q' Q sl hu hh c => wp_of (pe_one pe_self) (h.run w σ H env m Q' Q sl hu hh c)⟩
theorem de_and (ha : De X a ta) (hb : De X (.BoolOp .And (b :: rest) pos) tb) : De X (.BoolOp .And (a :: b :: rest) pos) (dAndV ta tb) := by
  refine ⟨fun w σ H env m Q' Q sl hu h c => wp_of (pe_and pe_self pe_self) ?_⟩
  refine ha.run w σ H env m _ _ sl hu h fun v d m1 H1 f1 u1 h1 q1 => ?_
  obtain ⟨k, rfl, q⟩ := q1
  rw [Hd.bl] at h1; subst h1
  refine ⟨k, rfl, ?_⟩
  cases k with
  | true => exact iteT (hb.run w σ H1 env m1 _ _ (sl.fr f1) u1 (by simpa using q) (c.from f1))
  | false => exact iteF (c _ _ _ _ f1 u1 (Hd.bl.mpr rfl) (by simpa using q))
theorem de_or (ha : De X a ta) (hb : De X (.BoolOp .Or (b :: rest) pos) tb) : De X (.BoolOp .Or (a :: b :: rest) pos) (dOrV ta tb) := by
  refine ⟨fun w σ H env m Q' Q sl hu h c => wp_of (pe_or pe_self pe_self) ?_⟩
  refine ha.run w σ H env m _ _ sl hu h fun v d m1 H1 f1 u1 h1 q1 => ?_
  obtain ⟨k, rfl, q⟩ := q1
  rw [Hd.bl] at h1; subst h1
  refine ⟨k, rfl, ?_⟩
  cases k with
  | false => exact iteF (hb.run w σ H1 env m1 _ _ (sl.fr f1) u1 (by simpa using q) (c.from f1))
  | true => exact iteT (c _ _ _ _ f1 u1 (Hd.bl.mpr rfl) (by simpa using q))
theorem de_not (ha : De X a ta) : De X (.UnaryOp .Not a pos) (dNotV ta) := by
  refine ⟨fun w σ H env m Q' Q sl hu h c => wp_of (pe_not pe_self) ?_⟩
  refine ha.run w σ H env m _ _ sl hu h fun v d m1 H1 f1 u1 h1 q1 => ?_
  obtain ⟨k, rfl, q⟩ := q1
  rw [Hd.bl] at h1; subst h1
  exact ⟨k, rfl, c _ _ _ _ f1 u1 (Hd.bl.mpr rfl) q⟩
def dIf (t : DT) (ta tb : DE) : DE := fun env m Q => t env m fun c m1 => if c = true then ta env m1 Q else tb env m1 Q
theorem de_if {c : Expr} (hc : Dt X c da) (ha : De X a ta) (hb : De X b tb) : De X (.IfExp c a b pos) (dIf da ta tb) := by
  refine ⟨fun w σ H env m Q' Q sl hu h k => wp_of (pe_ifExp pt_self pe_self pe_self) ?_⟩
  refine hc.run w σ H env m _ _ sl hu h fun b m1 H1 f1 u1 q1 => ?_
  cases b with
  | true => exact iteT (ha.run w σ H1 env m1 _ _ (sl.fr f1) u1 (by simpa using q1) (k.from f1))
  | false => exact iteF (hb.run w σ H1 env m1 _ _ (sl.fr f1) u1 (by simpa using q1) (k.from f1))
/-- x is None, x is not None -/
theorem Hd.isNon {w : W} {H : Hp} {v : V} {d : D} (h : Hd w H v d) : decide (v = .non) = (match d with | .non => true | _ => false) := by
  cases d <;> (try (unfold Hd at h; subst h; rfl))
  · unfold Hd at h; obtain ⟨a, vs, rfl, _⟩ := h; rfl
  · unfold Hd at h; obtain ⟨a, vs, rfl, _⟩ := h; rfl
  · unfold Hd at h; obtain ⟨a, dx, vs, rfl, _⟩ := h; rfl
  · unfold Hd at h; obtain ⟨a, _, rfl⟩ := h; rfl
  · unfold Hd at h; obtain ⟨rfl, _⟩ := h; rfl
  · unfold Hd at h; obtain ⟨a, rfl, _⟩ := h; rfl
  · unfold Hd at h; obtain ⟨a, rfl, _⟩ := h; rfl
def dIsN (neg : Bool) (ta : DE) : DE := fun env m Q => ta env m fun d m1 => Q (.bl ((match d with | .non => true | _ => false) != neg)) m1
theorem de_isN {j pos'} (ha : De X a ta) : De X (.Compare a [.Is] [.Constant .none j pos'] pos) (dIsN false ta) := by
  refine ⟨fun w σ H env m Q' Q sl hu h c => wp_of (pe_cmp (pc_isN pe_self)) ?_⟩
  refine ha.run w σ H env m _ _ sl hu h fun v d m1 H1 f1 u1 h1 q1 => ?_
  rw [h1.isNon]
  exact c _ _ _ _ f1 u1 (by rw [Hd.bl]; cases d <;> rfl) q1
theorem de_notN {j pos'} (ha : De X a ta) : De X (.Compare a [.IsNot] [.Constant .none j pos'] pos) (dIsN true ta) := by
  refine ⟨fun w σ H env m Q' Q sl hu h c => wp_of (pe_cmp (pc_notN pe_self)) ?_⟩
  refine ha.run w σ H env m _ _ sl hu h fun v d m1 H1 f1 u1 h1 q1 => ?_
  rw [h1.isNon]
  exact c _ _ _ _ f1 u1 (by rw [Hd.bl]; cases d <;> rfl) q1
end

/-! ### more built-ins -/
section
variable {X : Cx}
theorem dc_max2 (hc : X.calm = true) : DCall X (.builtin "max") (fun ds m Q => ∃ i j, ds = [.int i, .int j] ∧ Q (.int (if j > i then j else i)) m) := by
  refine ⟨fun w H m vs ds Q' Q hu hs h c => ?_⟩
  obtain ⟨i, j, rfl, q⟩ := h
  obtain ⟨v, xs, rfl, h1, h2⟩ := hs.uncons
  obtain ⟨v2, xs, rfl, h3, h4⟩ := h2.uncons
  cases h4.unnil
  rw [Hd.int] at h1 h3; subst h1; subst h3
  exact wpC_of (call_max2 hc) ⟨_, _, rfl, c _ _ _ _ (Fr.refl _ _) hu (Hd.int.mpr rfl) q⟩
theorem dc_min2 (hc : X.calm = true) : DCall X (.builtin "min") (fun ds m Q => ∃ i j, ds = [.int i, .int j] ∧ Q (.int (if j < i then j else i)) m) := by
  refine ⟨fun w H m vs ds Q' Q hu hs h c => ?_⟩
  obtain ⟨i, j, rfl, q⟩ := h
  obtain ⟨v, xs, rfl, h1, h2⟩ := hs.uncons
  obtain ⟨v2, xs, rfl, h3, h4⟩ := h2.uncons
  cases h4.unnil
  rw [Hd.int] at h1 h3; subst h1; subst h3
  exact wpC_of (call_min2 hc) ⟨_, _, rfl, c _ _ _ _ (Fr.refl _ _) hu (Hd.int.mpr rfl) q⟩
theorem dc_lenS : DCall X (.builtin "len") (fun ds m Q => ∃ z, ds = [.str z] ∧ z.length ≤ sizeLine ∧ Q (.int (z.length : Nat)) m) := by
  refine ⟨fun w H m vs ds Q' Q hu hs h c => ?_⟩
  obtain ⟨z, rfl, hz, q⟩ := h
  obtain ⟨v, xs, rfl, h1, h2⟩ := hs.uncons
  cases h2.unnil
  rw [Hd.str] at h1; subst h1
  exact wpC_of call_len_str ⟨_, rfl, hz, c _ _ _ _ (Fr.refl _ _) hu (Hd.int.mpr rfl) q⟩
end

/-! ### statements -/
abbrev DS := (Env → Nat → Prop) → (D → Nat → Prop) → Env → Nat → Prop
def wpS (X : Cx) (st : Stmt) : TS := fun Dn σ H => ∀ pins s, Inv X pins σ H s → wpAny (model X.prog X.w) X.A (exec st X.env) (SP X pins Dn) X.xe s
def wpSs (X : Cx) (st : List Stmt) : TS := fun Dn σ H => ∀ pins s, Inv X pins σ H s → wpAny (model X.prog X.w) X.A (execs st X.env) (SP X pins Dn) X.xe s
theorem ps_self {X : Cx} {st : Stmt} : PS X st (wpS X st) := ⟨fun pins s σ H Dn I h => h pins s I⟩
theorem pss_self {X : Cx} {st : List Stmt} : PSs X st (wpSs X st) := ⟨fun pins s σ H Dn I h => h pins s I⟩
theorem wpS_of {X : Cx} {st : Stmt} {t : TS} (h : PS X st t) {Dn σ H} (q : t Dn σ H) : wpS X st Dn σ H := fun pins s I => h.run pins s σ H Dn I q
theorem wpSs_of {X : Cx} {st : List Stmt} {t : TS} (h : PSs X st t) {Dn σ H} (q : t Dn σ H) : wpSs X st Dn σ H := fun pins s I => h.run pins s σ H Dn I q
def Cn (w : W) (H : Hp) (nx : Env → Nat → Prop) (Q : L2.St → Hp → Prop) : Prop := ∀ σ' env' m' H', Fr w H H' → UI w m' H' → Sls w H' σ' env' → nx env' m' → Q σ' H'
theorem Cn.from {w : W} {H H1 : Hp} {nx : Env → Nat → Prop} {Q : L2.St → Hp → Prop} (c : Cn w H nx Q) (f : Fr w H H1) : Cn w H1 nx Q := fun σ' env' m' H' g => c σ' env' m' H' (f.trans g)
structure Ds (X : Cx) (st : Stmt) (t : DS) : Prop where
  run : ∀ w σ H env m nx rt (Dn : Ends), Sls w H σ env → UI w m H → t nx rt env m → Cn w H nx Dn.nx → Ct w H rt Dn.rt → wpS X st Dn σ H
structure Dss (X : Cx) (st : List Stmt) (t : DS) : Prop where
  run : ∀ w σ H env m nx rt (Dn : Ends), Sls w H σ env → UI w m H → t nx rt env m → Cn w H nx Dn.nx → Ct w H rt Dn.rt → wpSs X st Dn σ H
section
variable {X : Cx} {st : Stmt} {rest sts : List Stmt} {e : Expr} {te : DE} {t u : DS} {pos : Pos}
def dNext : DS := fun nx _ env m => nx env m
def dSeq (t u : DS) : DS := fun nx rt env m => t (fun env1 m1 => u nx rt env1 m1) rt env m
theorem dss_nil : Dss X [] dNext := ⟨fun w σ H env m nx rt Dn sl hu h c r => wpSs_of pss_nil (c _ _ _ _ (Fr.refl _ _) hu sl h)⟩
theorem dss_cons (h1 : Ds X st t) (h2 : Dss X rest u) : Dss X (st :: rest) (dSeq t u) := by
  refine ⟨fun w σ H env m nx rt Dn sl hu h c r => wpSs_of (pss_cons ps_self pss_self) ?_⟩
  exact h1.run w σ H env m _ rt { Dn with nx := wpSs X rest Dn } sl hu h (fun σ1 env1 m1 H1 f1 u1 s1 q1 => h2.run w σ1 H1 env1 m1 nx rt Dn s1 u1 q1 (c.from f1) (r.from f1)) r
theorem dss_one (h1 : Ds X st t) : Dss X [st] t := ⟨fun w σ H env m nx rt Dn sl hu h c r => wpSs_of (pss_one ps_self) (h1.run w σ H env m nx rt Dn sl hu h c r)⟩
def dRet (te : DE) : DS := fun _ rt env m => te env m rt
theorem ds_ret (he : De X e te) : Ds X (.Return (some e) pos) (dRet te) := ⟨fun w σ H env m nx rt Dn sl hu h c r => wpS_of (ps_ret pe_self) (he.run w σ H env m _ _ sl hu h r)⟩
def dRetN : DS := fun _ rt _ m => rt .non m
theorem ds_retN : Ds X (.Return none pos) dRetN := ⟨fun w σ H env m nx rt Dn sl hu h c r => wpS_of ps_retN (r _ _ _ _ (Fr.refl _ _) hu (Hd.non.mpr rfl) h)⟩
def dDrop (te : DE) : DS := fun nx _ env m => te env m fun _ m1 => nx env m1
theorem ds_expr (he : De X e te) (hs : swapsWith e none pos.line X.env = pure false := by rfl) : Ds X (.Expr e pos) (dDrop te) :=
  ⟨fun w σ H env m nx rt Dn sl hu h c r => wpS_of (ps_expr pe_self hs) (he.run w σ H env m _ _ sl hu h fun v d m1 H1 f1 u1 h1 q1 => c _ _ _ _ f1 u1 (sl.fr f1) q1)⟩
theorem ds_doc {x j pos'} : Ds X (.Expr (.Constant (.str x) j pos) pos') dNext := ⟨fun w σ H env m nx rt Dn sl hu h c r => wpS_of ps_doc (c _ _ _ _ (Fr.refl _ _) hu sl h)⟩
def dSet (i : Nat) (te : DE) : DS := fun nx _ env m => te env m fun d m1 => nx (env.set i (some d)) m1
theorem ds_set {i : Nat} {x : Str} {pos' : Pos} (hN : X.N.Nodup) (he : De X e te) (hi : X.N[i]? = some x := by rfl) (hx : Loc X.env.scope x := by first | exact Or.inl rfl | exact Or.inr rfl) (hs : swapsWith e (some (.Name x pos')) pos.line X.env = pure false := by rfl)
    (hf : X.fn x = true ∨ X.env.scope.names.lookup x = some .local := by first | exact .inl rfl | exact .inr rfl | assumption) : Ds X (.Assign [.Name x pos'] e pos) (dSet i te) :=
  ⟨fun w σ H env m nx rt Dn sl hu h c r => wpS_of (ps_set hN hi hx pe_self hs hf) (he.run w σ H env m _ _ sl hu h fun v d m1 H1 f1 u1 h1 q1 => c _ _ _ _ f1 u1 ((sl.fr f1).set i h1) q1)⟩
/-- name = [..], the name a local -/
theorem ds_setLc {elt tg iter : Expr} {ifs : List Expr} {scope : Scope} {own : List (Str × Nat)} {is : List Nat} {ti : DI} {dg : DG} {dt : DT} {de : DE} {i : Nat} {y : Str} {py lpos : Pos} (hc : X.calm = true) (hN : X.N.Nodup) (hi : Di X tg iter ti) (ok : BlkOk X.N X.env.scope scope own)
    (hg : ∀ (s : Shared) (H : Hp) (C : Addr) (cl : List (Str × Addr)) (fp : List Addr), Dg (X.blk s H scope (compEnvC scope cl C X.env) fp) tg is dg) (ht : ∀ (s : Shared) (H : Hp) (C : Addr) (cl : List (Str × Addr)) (fp : List Addr), Dts (X.blk s H scope (compEnvC scope cl C X.env) fp) ifs dt)
    (he : ∀ (s : Shared) (H : Hp) (C : Addr) (cl : List (Str × Addr)) (fp : List Addr), De (X.blk s H scope (compEnvC scope cl C X.env) fp) elt de) (hy : X.N[i]? = some y := by rfl) (hyl : X.env.scope.names.lookup y = some .local := by rfl)
    (hsw : swapsWith (.ListComp elt [⟨tg, iter, ifs, 0⟩] scope lpos) (some (.Name y py)) pos.line X.env = pure true := by exact sw_true rfl rfl rfl (by decide +kernel)) (his : ∀ i ∈ is, i ∈ own.map (·.2) := by decide) (hs : ∀ x, foldedSetIterable iter X.env x = pure x := by intro _; rfl) :
    Ds X (.Assign [.Name y py] (.ListComp elt [⟨tg, iter, ifs, 0⟩] scope lpos) pos) (dSet i (dLc ti dg dt de (own.map (·.2)))) :=
  ⟨fun w σ H env m nx rt Dn sl hu h c r => wpS_of (ps_setLc (own := own) (i := i) hc hN hy hyl hsw pi_self ok pg_gB pts_ttB pe_teB hs)
    (lc_run hi hg ht he his sl hu h fun v d m1 H1 f1 u1 h1 q1 => c _ _ _ _ f1 u1 ((sl.fr f1).set i h1) q1)⟩
/-- any target -/
theorem ds_asg {tg : Expr} {is : List Nat} {dg : DG} (he : De X e te) (hg : Dg X tg is dg) (hs : swapsWithSole [tg] e pos.line X.env = pure false := by rfl) (hw : swappedStores [tg] e X.env = pure none := by rfl)
    (h1 : (assignEach [tg] X.env).map (·.2) = [assign tg X.env] := by rfl) : Ds X (.Assign [tg] e pos) (fun nx _ env m => te env m fun d m1 => dg d env fun env1 => nx env1 m1) := by
  refine ⟨fun w σ H env m nx rt Dn sl hu h c r => wpS_of (ps_asg pe_self pg_self hs hw h1) ?_⟩
  refine he.run w σ H env m _ _ sl hu h fun v d m1 H1 f1 u1 h1 q1 => ?_
  exact hg.run w σ H1 env m1 v d _ _ (sl.fr f1) u1 h1 q1 fun σ2 env2 s2 _ q2 => c _ _ _ _ f1 u1 s2 q2
/-- a, b = x, y -/
def dPar (i j : Nat) (ta : DA) : DS := fun nx _ env m => ta env m fun ds m1 => ∃ a b, ds = [a, b] ∧ nx ((env.set i (some a)).set j (some b)) m1
theorem ds_par {i j : Nat} {x y : Str} {a b : Expr} {ta : DA} {px py pt : Pos} {kt k2 pt2} (hc : X.calm = true) (hN : X.N.Nodup) (ha : Da X [a, b] ta) (hi : X.N[i]? = some x := by rfl) (hj : X.N[j]? = some y := by rfl) (hij : i ≠ j := by decide)
    (hx : X.env.scope.names.lookup x = some .local := by rfl) (hy : X.env.scope.names.lookup y = some .local := by rfl)
    (hw : swappedStores [.Tuple [.Name x px, .Name y py] kt pt] (.Tuple [a, b] k2 pt2) X.env = pure (some [x, y]) := by rfl)
    (hs : swapsWithSole [.Tuple [.Name x px, .Name y py] kt pt] (.Tuple [a, b] k2 pt2) pos.line X.env = pure false := by rfl) :
    Ds X (.Assign [.Tuple [.Name x px, .Name y py] kt pt] (.Tuple [a, b] k2 pt2) pos) (dPar i j ta) := by
  refine ⟨fun w σ H env m nx rt Dn sl hu h c r => wpS_of (ps_par hc hN hi hj hij hx hy pa_self hw hs) ?_⟩
  refine ha.run w σ H env m _ _ sl hu h fun vs ds m1 H1 f1 u1 h1 q1 => ?_
  obtain ⟨a, b, rfl, q⟩ := q1
  obtain ⟨v1, r1, rfl, k1, k2⟩ := h1.uncons
  obtain ⟨v2, r2, rfl, k3, k4⟩ := k2.uncons
  cases k4.unnil
  exact ⟨v1, v2, rfl, c _ _ _ _ f1 u1 (((sl.fr f1).set i k1).set j k3) q⟩
def dIfS (c : DT) (t u : DS) : DS := fun nx rt env m => c env m fun b m1 => if b = true then t nx rt env m1 else u nx rt env m1
theorem ds_if {c : Expr} {tc : DT} {a b : List Stmt} (hc : Dt X c tc) (ha : Dss X a t) (hb : Dss X b u) : Ds X (.If c a b pos) (dIfS tc t u) := by
  refine ⟨fun w σ H env m nx rt Dn sl hu h k r => wpS_of (ps_if pt_self pss_self pss_self) ?_⟩
  refine hc.run w σ H env m _ _ sl hu h fun b m1 H1 f1 u1 q1 => ?_
  cases b with
  | true => exact iteT (ha.run w σ H1 env m1 nx rt Dn (sl.fr f1) u1 (by simpa using q1) (k.from f1) (r.from f1))
  | false => exact iteF (hb.run w σ H1 env m1 nx rt Dn (sl.fr f1) u1 (by simpa using q1) (k.from f1) (r.from f1))
def forIn1 (dg : DG) (db : DS) (nx : Env → Nat → Prop) (rt : D → Nat → Prop) (ds : List D) (env : Env) (m1 : Nat) : Prop := ∃ P : Nat → Env → Nat → Prop, P 0 env m1 ∧
  (∀ i d env mm, ds[i]? = some d → P i env mm → dg d env fun env2 => db (fun env3 m3 => P (i + 1) env3 m3) rt env2 mm) ∧ ∀ env mm, P ds.length env mm → nx env mm
def dFor (ti : DI) (dg : DG) (db : DS) : DS := fun nx rt env m => ti env m fun ds m1 => forIn1 dg db nx rt ds env m1
theorem ds_for {tg iter : Expr} {body : List Stmt} {is : List Nat} {ti : DI} {dg : DG} {db : DS} (hp : PassesOwn (model X.prog X.w) X.A X.env X.xe) (hc : X.calm = true) (hi : Di X tg iter ti) (hg : Dg X tg is dg) (hb : Dss X body db)
    (hs : ∀ x, foldedSetIterable iter X.env x = pure x := by intro _; rfl) : Ds X (.For tg iter body [] pos) (dFor ti dg db) := by
  refine ⟨fun w σ H env m nx rt Dn sl hu h c r => wpS_of (ps_for hp hc pi_self pg_self pss_self hs) ?_⟩
  refine hi.run w σ H env m _ _ sl hu h fun J ds m1 H1 f1 u1 hw q1 => ?_
  obtain ⟨P, p0, step, fin⟩ := q1
  obtain ⟨G, Y, wk, ww⟩ := hw.wk
  refine for_it wk (fun i σ2 H2 => ∃ env2 mm, P i env2 mm ∧ Sls w H2 σ2 env2 ∧ UI w mm H2 ∧ Fr w H1 H2) ⟨env, m1, p0, sl.fr f1, u1, Fr.refl _ _⟩ (fun i σ2 H2 hi2 ⟨env2, mm, hp2, s2, hu2, hf⟩ => (ww w (Gr.refl _ _) H2 (.inl hf)).1) (fun i x σ2 H2 H3 hlt ⟨env2, mm, hp2, s2, hu2, hf⟩ y => ?_) fun σ2 H2 ⟨env2, mm, hp2, s2, hu2, hf⟩ => ?_
  · obtain ⟨fy, uy, free, d, ed, hx⟩ := (ww w (Gr.refl _ _) H2 (.inl hf)).2 i x H3 mm hlt hu2 y
    refine hg.run w σ2 H3 env2 mm x d _ _ (s2.fr fy) uy hx (step i d env2 mm ed hp2) fun σ3 env3 s3 _ q3 => ?_
    refine hb.run w σ3 H3 env3 mm _ rt _ s3 uy q3 (fun σ4 env4 m4 H4 f4 u4 s4 q4 => ⟨env4, m4, q4, s4, u4, hf.trans (fy.trans f4)⟩) ?_
    exact r.from (f1.trans (hf.trans fy))
  · exact c _ _ _ _ (f1.trans hf) hu2 s2 (fin env2 mm hp2)
end

/-! ### a def by its body -/
section
variable {P : Program} {w : World} {K : PySem.W.Frag} {mg : Str → Option Value} {base : Heap}
abbrev envAt (N : List Str) (ds : List D) : Env := ds.map some ++ List.replicate (N.length - ds.length) none
theorem fnD {x qual : Str} {st : Stmt} {f : Addr} {fd : FuncData} {N ps : List Str} {k : Nat} {sp : DSp} (F : Fun K x qual st f fd) (S : FnScope N ps (defScope st)) (len : ∀ ds m Q, sp ds m Q → ds.length = ps.length)
    (hbody : ∀ (cdv : Value) (A : Around) (outer : List PySem.Env) (s : Shared) (H : Hp) (E : XK) (ds : List D) (m : Nat) (Q' : D → Nat → Prop), Room k (A.deeper (envOfC qual (defScope st) s.heap.objs.size f cdv)) → sp ds m Q' →
      ∃ t, Dss (cxOf CX0 P w K mg base N qual (defScope st) f cdv A outer s H E).nox (defBody st) t ∧ t (fun _ m => Q' .non m) Q' (envAt N ds) m) : FnOk P w K mg base CX0 (k + 1) f fd ps (spD sp) := by
  refine F.ok S (fun vs H Q E h => ?_) (fun cdv A outer s H vs Q E hr h => ?_)
  · obtain ⟨wd, ds, m, Q', hds, hu, hsp, _⟩ := h
    rw [hds.len]
    exact len _ _ _ hsp
  · obtain ⟨wd, ds, m, Q', hds, hu, hsp, c⟩ := h
    obtain ⟨t, ht, q⟩ := hbody cdv A outer s H E ds m Q' hr hsp
    refine ⟨_, pss_self, ht.run wd _ H _ m _ _ _ (Sls.start hds N) hu q (fun σ' env' m' H' f1 u1 s1 q1 => ?_) c⟩
    exact c _ _ _ _ f1 u1 (Hd.non.mpr rfl) q1
end
end TC
namespace TC
open PySem PySem.Spec PyProof.Rows L2
variable [Cl]

/-- a comprehension whose parts are plain functions of the item -/
theorem dLc_pure {ti : DI} {i : Nat} {dt : DT} {de : DE} {vs : List Nat} {env : Env} {m : Nat} {Q : D → Nat → Prop} (ds : List D) (f : D → Bool) (g : D → D) (hti : ∀ R : List D → Nat → Prop, R ds m → ti env m R) (hsz : ds.length ≤ sizeLine)
    (ht : ∀ d ∈ ds, ∀ mm (R : Bool → Nat → Prop), R (f d) mm → dt ((wipeE env vs).set i (some d)) mm R) (he : ∀ d ∈ ds, f d = true → ∀ mm (R : D → Nat → Prop), R (g d) mm → de ((wipeE env vs).set i (some d)) mm R)
    (q : Q (.lst ((ds.filter f).map g)) m) : dLc ti (dgName i) dt de vs env m Q := by
  refine hti _ ⟨hsz, fun k acc mm => mm = m ∧ acc = ((ds.take k).filter f).map g, ⟨rfl, rfl⟩, ?_, ?_⟩
  · rintro k d acc mm hd ⟨rfl, rfl⟩
    have hm : d ∈ ds := List.mem_of_getElem? hd
    have htk : ds.take (k + 1) = ds.take k ++ [d] := by
      obtain ⟨h1, h2⟩ := List.getElem?_eq_some_iff.mp hd
      rw [← List.take_append_getElem h1, h2]
    refine ht d hm mm _ ?_
    cases hf : f d with
    | false => 
      rw [if_neg Bool.false_ne_true]
      refine ⟨rfl, ?_⟩
      rw [htk]
      simp [hf]
    | true =>
      rw [if_pos rfl]
      refine he d hm hf mm _ ⟨rfl, ?_⟩
      rw [htk]
      simp [hf]
  · rintro acc mm ⟨rfl, rfl⟩
    rw [List.take_length]
    exact q

/-- a list or a tuple of these things -/
def Sq (a : D) (l : List D) : Prop := a = .tup l ∨ a = .lst l
def outD (row names : List D) : List D := row.filter fun d => !inV (fv d) (names.map fv)
theorem outD_le (row names : List D) : (outD row names).length ≤ row.length := List.length_filter_le _ _
theorem outD_flat {row names : List D} (h : row.all flatD = true) : (outD row names).all flatD = true := by
  rw [List.all_eq_true] at h ⊢
  exact fun d hd => h d (List.mem_filter.mp hd).1
end TC
namespace TC
open PySem PySem.Spec PyProof.Rows L2 RZ
variable [Cl]

/-! ### isinstance -/
def tyD : D → String
  | .non => "NoneType"
  | .bl _ => "bool"
  | .int _ => "int"
  | .str _ => "str"
  | .lst _ => "list"
  | .tup _ => "tuple"
  | .obj _ _ => "list"
  | .urn => "list"
  | .cell _ _ => "list"
  | .dct _ => "dict"
  | .tupz _ => "tuple"
def isD (d : D) (c : String) : Bool := match d with
  | .bl _ => c == "bool" || c == "int"
  | d => tyD d == c
def CK (c : String) : Prop := c = "list" ∨ c = "tuple" ∨ c = "bool" ∨ c = "str" ∨ c = "int"
theorem isD_kit {d : D} {c : String} (h : CK c) : kitB (tyD d) c = some (isD d c) := by
  rcases h with rfl | rfl | rfl | rfl | rfl <;> cases d <;> simp only [tyD, isD] <;> decide +kernel
def noUrn : D → Bool
  | .urn => false
  | .cell _ _ => false
  | .dct _ => false
  | .tupz _ => false
  | .obj _ _ => false
  | _ => true
theorem TupAt.ty {w : W} {K : PySem.W.Frag} {H : Hp} {a : Addr} {vs : List V} (h : TupAt w H a vs) (hK : K = Cl.K) : TyX K H (.ref a) (.type "tuple") := by
  subst hK
  rcases h with ⟨o, its, n, h1, h2, _⟩ | ⟨_, h | ⟨o, h⟩⟩
  · exact .kTuple h1 h2
  · exact .base (.tup h)
  · exact .fTuple h
theorem Hd.ty {w : W} {K : PySem.W.Frag} {H : Hp} {v : V} {d : D} (hK : K = Cl.K) (h : Hd w H v d) (n : noUrn d = true) : TyX K H v (.type (tyD d)) := by
  cases d with
  | non => rw [Hd.non] at h; subst h; exact .base .non
  | bl b => rw [Hd.bl] at h; subst h; exact .base (.bl _)
  | int b => rw [Hd.int] at h; subst h; exact .base (.int _)
  | str b => rw [Hd.str] at h; subst h; exact .base (.str _)
  | lst l => rw [Hd.lst] at h; obtain ⟨a, vs, rfl, _, e, _⟩ := h; exact .base (.lst e)
  | tup l => rw [Hd.tup] at h; obtain ⟨a, vs, rfl, e, _⟩ := h; exact e.ty hK
  | obj c l => cases n
  | urn => cases n
  | cell p l => cases n
  | dct l => cases n
  | tupz l => cases n
section
variable {X : Cx} {e : Expr} {te : DE} {x A B : Str} {p p1 p2 pos pos2 : Pos} {k : Nat} {a b : String}
theorem de_isi (hm : X.mg "isinstance" = none) (ha : De X e te) (hA : X.mg A = none) (hbA : bootBuiltins A = some (.type a) := by decide +kernel) (hc : CK a := by first | exact .inl rfl | exact .inr (.inl rfl) | exact .inr (.inr (.inl rfl)) | exact .inr (.inr (.inr (.inl rfl))) | exact .inr (.inr (.inr (.inr rfl))))
    (hgA : Gl X A := by rfl) (hg : Gl X "isinstance" := by rfl) (hnA : A ≠ "__name__" := by decide) (hdA : (A == ("__debug__" : Str)) = false := by decide)
    (hs1 : starEach [e, .Name A p1] X.env = (false, eval e X.env) :: starEach [.Name A p1] X.env := by rfl) (hs2 : starEach [.Name A p1] X.env = (false, eval (.Name A p1) X.env) :: starEach [] X.env := by rfl)
    (hpl : (backTo pos (starEach [.Name A p1] X.env)).any (·.1) = false := by rfl) (hK : X.K = Cl.K := by rfl) :
    De X (.Call (.Name "isinstance" p) [e, .Name A p1] [] pos) (fun env m Q => te env m fun d m1 => noUrn d = true ∧ Q (.bl (isD d a)) m1) := by
  refine ⟨fun w σ H env m Q' Q sl hu h c => wp_of (pe_callB call_isi hg hm (by decide +kernel) (pa_cons pe_self (pa_cons (pe_bltn (v := .ty a) hgA hA hbA rfl hnA hdA) pa_nil hs2) hs1) (by decide) (by decide) hs1 hpl) ?_⟩
  refine ha.run w σ H env m _ _ sl hu h fun v d m1 H1 f1 u1 h1 q1 => ?_
  exact ⟨v, .ty a, _, _, _, rfl, .ty a, h1.ty hK q1.1, kit_ty (isD_kit hc), c _ _ _ _ f1 u1 (Hd.bl.mpr rfl) q1.2⟩
theorem de_isi2 (hm : X.mg "isinstance" = none) (ha : De X e te) (hA : X.mg A = none) (hB : X.mg B = none) (hbA : bootBuiltins A = some (.type a) := by decide +kernel) (hbB : bootBuiltins B = some (.type b) := by decide +kernel) (hc : CK a := by first | exact .inl rfl | exact .inr (.inl rfl) | exact .inr (.inr (.inl rfl)) | exact .inr (.inr (.inr (.inl rfl))) | exact .inr (.inr (.inr (.inr rfl))))
    (hc2 : CK b := by first | exact .inl rfl | exact .inr (.inl rfl) | exact .inr (.inr (.inl rfl)) | exact .inr (.inr (.inr (.inl rfl))) | exact .inr (.inr (.inr (.inr rfl))))
    (hgA : Gl X A := by rfl) (hgB : Gl X B := by rfl) (hg : Gl X "isinstance" := by rfl) (hnA : A ≠ "__name__" := by decide) (hdA : (A == ("__debug__" : Str)) = false := by decide) (hnB : B ≠ "__name__" := by decide) (hdB : (B == ("__debug__" : Str)) = false := by decide)
    (hs1 : starEach [e, .Tuple [.Name A p1, .Name B p2] k pos2] X.env = (false, eval e X.env) :: starEach [.Tuple [.Name A p1, .Name B p2] k pos2] X.env := by rfl) (hs2 : starEach [.Tuple [.Name A p1, .Name B p2] k pos2] X.env = (false, eval (.Tuple [.Name A p1, .Name B p2] k pos2) X.env) :: starEach [] X.env := by rfl)
    (hs3 : starEach [.Name A p1, .Name B p2] X.env = (false, eval (.Name A p1) X.env) :: starEach [.Name B p2] X.env := by rfl) (hs4 : starEach [.Name B p2] X.env = (false, eval (.Name B p2) X.env) :: starEach [] X.env := by rfl)
    (hpl : (backTo pos (starEach [.Tuple [.Name A p1, .Name B p2] k pos2] X.env)).any (·.1) = false := by rfl) (hK : X.K = Cl.K := by rfl) :
    De X (.Call (.Name "isinstance" p) [e, .Tuple [.Name A p1, .Name B p2] k pos2] [] pos) (fun env m Q => te env m fun d m1 => noUrn d = true ∧ Q (.bl (isD d a || isD d b)) m1) := by
  refine ⟨fun w σ H env m Q' Q sl hu h c => wp_of (pe_callB call_isiT hg hm (by decide +kernel) (pa_cons pe_self (pa_cons (pe_tup (pa_cons (pe_bltn (v := .ty a) hgA hA hbA rfl hnA hdA) (pa_cons (pe_bltn (v := .ty b) hgB hB hbB rfl hnB hdB) pa_nil hs4) hs3)) pa_nil hs2) hs1) (by decide) (by decide) hs1 hpl) ?_⟩
  refine ha.run w σ H env m _ _ sl hu h fun v d m1 H1 f1 u1 h1 q1 => ?_
  refine ⟨(by show 2 ≤ sizeLine; decide), fun tp htp => ?_⟩
  refine ⟨v, tp, _, _, [.type a, .type b], (isD d a || isD d b), rfl, upd_same, .cons (.ty a) (.cons (.ty b) .nil), (h1.fr (Fr.upd htp)).ty hK q1.1, ?_, c _ _ _ _ (f1.trans (Fr.upd htp)) (u1.upd htp) (Hd.bl.mpr rfl) q1.2⟩
  refine kitAny_cons (kit_ty (isD_kit hc)) (fun e => ?_) (fun e => by rw [e]; rfl)
  refine kitAny_cons (kit_ty (isD_kit hc2)) (fun e2 => ?_) (fun e2 => by rw [e2, Bool.or_true])
  rw [e, e2]; exact kitAny_nil
end

/-! ### zip -/
def pairsD (as bs : List D) : List D := (as.zip bs).map fun p => .tup [p.1, p.2]
theorem zip_get {as bs : List D} {i : Nat} (h1 : i < as.length) (h2 : i < bs.length) : (as.zip bs)[i]? = some (as[i], bs[i]) := by
  rw [List.getElem?_eq_getElem (by rw [List.length_zip]; omega), List.getElem_zip]
theorem keep_zip {w : W} {ds es : List D} {H0 H1 : Hp} (k : Keep w (pairsD ds es) H0 H1) {i : Nat} (h1 : i < ds.length) (h2 : i < es.length) : (∀ {v : V}, Hd w H0 v ds[i] → Hd w H1 v ds[i]) ∧ ∀ {v : V}, Hd w H0 v es[i] → Hd w H1 v es[i] := by
  rcases k with f | ⟨c, f⟩
  · exact ⟨fun h => h.fr f, fun h => h.fr f⟩
  · have m : D.tup [ds[i], es[i]] ∈ pairsD ds es := by
      refine List.mem_of_getElem? (i := i) ?_
      simp only [pairsD, List.getElem?_map, zip_get h1 h2]
      rfl
    have n := nocL_of c _ m
    rw [noc, nocL, nocL, Bool.and_eq_true, Bool.and_eq_true] at n
    exact ⟨fun h => h.frx f n.1, fun h => h.frx f n.2.1⟩
theorem walks_zipL {w : W} {H0 : Hp} {K : PySem.W.Frag} {a b : Addr} {vs us : List V} {ds es : List D} (na : ¬ w.av a) (nb : ¬ w.av b) (ha : H0 a = some (.lst vs)) (hb : H0 b = some (.lst us)) (h : Hds w H0 vs ds) (g : Hds w H0 us es) (hl : ds.length = es.length) : Walks w H0 (Itz K a b) (pairsD ds es) := by
  have e1 := h.len
  have e2 := g.len
  have hn : (pairsD ds es).length = min vs.length us.length := by simp [pairsD, e1, e2]
  have wl := walk_zip (K := K) (a := a) (b := b) (xs := vs) (ys := us) hn
  refine ⟨⟨_, _, wl, fun w2 gr H1 f => ⟨⟨SqL.of (f.at (gr.av na ha) ha), SqL.of (f.at (gr.av nb hb) hb)⟩, fun i x H2 m hi hu y => ?_⟩⟩⟩
  obtain ⟨T, x1, y1, rfl, hT, rfl, k1, k2⟩ := y
  have hi1 : i < ds.length := by simp [pairsD] at hi; omega
  have hi2 : i < es.length := by omega
  obtain ⟨v1, e3, hv1⟩ := h.get (i := i) (d := ds[i]) (by simp [hi1])
  obtain ⟨v2, e4, hv2⟩ := g.get (i := i) (d := es[i]) (by simp [hi2])
  have e3' : some x1 = some v1 := k1.symm.trans e3
  have e4' : some y1 = some v2 := k2.symm.trans e4
  cases e3'; cases e4'
  refine ⟨Fr.upd hT, hu.upd hT, fun c hc => ?_, .tup [ds[i], es[i]], by simp only [pairsD, List.getElem?_map, zip_get hi1 hi2]; rfl, ?_⟩
  · by_cases hcT : c = T
    · rw [hcT]; exact hT
    · rw [upd_ne hcT] at hc; exact hc
  · exact new_tup hu (.cons ((keep_zip f hi1 hi2).1 (hv1.grow gr)) (.cons ((keep_zip f hi1 hi2).2 (hv2.grow gr)) .nil)) hT
theorem walk_zipT {K : PySem.W.Frag} {a b : Addr} {xs ys : List V} {n : Nat} (hn : n = min xs.length ys.length) : Walk (ItzT K a b) n (fun H => SqT K H a xs ∧ SqT K H b ys) (YPair (fun i => xs[i]?) (fun i => ys[i]?)) := by
  subst hn
  refine ⟨fun i _ hi q => ?_, fun _ q => ⟨xs, ys, q.1, q.2, by omega⟩, fun i H v H' _ q y => ?_⟩
  · have h1 : i < xs.length := by omega
    have h2 : i < ys.length := by omega
    exact ⟨xs, ys, xs[i], ys[i], q.1, q.2, by simp [h1], by simp [h2]⟩
  · obtain ⟨T, x, z, h1, h2, h3, h4, h5⟩ := y
    exact ⟨T, x, z, h1, h2, h3, h4 xs q.1, h5 ys q.2⟩
theorem walks_zipT {w : W} {H0 : Hp} {K : PySem.W.Frag} {a b : Addr} {vs us : List V} {ds es : List D} (hK : K = Cl.K) (ha : TupAt w H0 a vs) (hb : TupAt w H0 b us) (h : Hds w H0 vs ds) (g : Hds w H0 us es) (hl : ds.length = es.length) : Walks w H0 (ItzT K a b) (pairsD ds es) := by
  have e1 := h.len
  have e2 := g.len
  have hn : (pairsD ds es).length = min vs.length us.length := by simp [pairsD, e1, e2]
  have wl := walk_zipT (K := K) (a := a) (b := b) (xs := vs) (ys := us) hn
  refine ⟨⟨_, _, wl, fun w2 gr H1 f => ⟨⟨(ha.at gr f).sq hK, (hb.at gr f).sq hK⟩, fun i x H2 m hi hu y => ?_⟩⟩⟩
  obtain ⟨T, x1, y1, rfl, hT, rfl, k1, k2⟩ := y
  have hi1 : i < ds.length := by simp [pairsD] at hi; omega
  have hi2 : i < es.length := by omega
  obtain ⟨v1, e3, hv1⟩ := h.get (i := i) (d := ds[i]) (by simp [hi1])
  obtain ⟨v2, e4, hv2⟩ := g.get (i := i) (d := es[i]) (by simp [hi2])
  have e3' : some x1 = some v1 := k1.symm.trans e3
  have e4' : some y1 = some v2 := k2.symm.trans e4
  cases e3'; cases e4'
  refine ⟨Fr.upd hT, hu.upd hT, fun c hc => ?_, .tup [ds[i], es[i]], by simp only [pairsD, List.getElem?_map, zip_get hi1 hi2]; rfl, ?_⟩
  · by_cases hcT : c = T
    · rw [hcT]; exact hT
    · rw [upd_ne hcT] at hc; exact hc
  · exact new_tup hu (.cons ((keep_zip f hi1 hi2).1 (hv1.grow gr)) (.cons ((keep_zip f hi1 hi2).2 (hv2.grow gr)) .nil)) hT
theorem di_zip {X : Cx} {e e2 : Expr} {ta tb : DE} {p pos tpos : Pos} {elts : List Expr} {kk : Nat} (hm : X.mg "zip" = none) (h1 : De X e ta) (h2 : De X e2 tb) (hg : Gl X "zip" := by rfl) (hs : starEach [e, e2] X.env = (false, eval e X.env) :: starEach [e2] X.env := by rfl)
    (hs2 : starEach [e2] X.env = (false, eval e2 X.env) :: starEach [] X.env := by rfl) (hpl : (backTo pos (starEach [e2] X.env)).any (·.1) = false := by rfl) (hK : X.K = Cl.K := by rfl) :
    Di X (.Tuple elts kk tpos) (.Call (.Name "zip" p) [e, e2] [] pos) (fun env m Q => ta env m fun x m1 => tb env m1 fun y m2 => ∃ as bs, as.length = bs.length ∧ ((x = .lst as ∧ y = .lst bs) ∨ (x = .tup as ∧ y = .tup bs)) ∧ Q (pairsD as bs) m2) := by
  refine ⟨fun w σ H env m Q' R sl hu hh c => wpI_of (pi_zipA hg hm (pa_cons pe_self (pa_cons pe_self pa_nil hs2) hs) hs hpl) ?_⟩
  refine h1.run w σ H env m _ _ sl hu hh fun v d m1 H1 f1 u1 k1 q1 => ?_
  refine h2.run w σ H1 env m1 _ _ (sl.fr f1) u1 q1 fun v2 d2 m2 H2 f2 u2 k2 q2 => ?_
  have k1 := k1.fr f2
  obtain ⟨as, bs, hl, hk, q⟩ := q2
  rcases hk with ⟨rfl, rfl⟩ | ⟨rfl, rfl⟩
  · rw [Hd.lst] at k1 k2
    obtain ⟨a, vs, rfl, na, ha, hs1⟩ := k1
    obtain ⟨b, us, rfl, nb, hb, hs2⟩ := k2
    exact ⟨a, b, vs, us, rfl, .inl ⟨SqL.of ha, SqL.of hb, c _ _ _ _ (f1.trans f2) u2 (walks_zipL na nb ha hb hs1 hs2 hl) q⟩⟩
  · rw [Hd.tup] at k1 k2
    obtain ⟨a, vs, rfl, ha, hs1⟩ := k1
    obtain ⟨b, us, rfl, hb, hs2⟩ := k2
    exact ⟨a, b, vs, us, rfl, .inr ⟨ha.sq hK, hb.sq hK, c _ _ _ _ (f1.trans f2) u2 (walks_zipT hK ha hb hs1 hs2 hl) q⟩⟩
/-! ### places -/
theorem atI_in {l : List D} {v : Int} (h0 : 0 ≤ v) (h1 : v < (l.length : Nat)) : ∃ d, atI l v = some d ∧ d ∈ l ∧ l[v.toNat]? = some d := by
  have hk : v.toNat < l.length := by omega
  refine ⟨l[v.toNat], ?_, List.getElem_mem .., by simp [hk]⟩
  unfold atI ixN
  rw [if_pos h0, if_pos h1]
  simp [hk]
end TC
namespace TC
open PySem PySem.Spec PyProof.Rows L2
variable [Cl]
def dNever : DS := fun _ _ _ _ => False
theorem dss_never {X : Cx} {sts : List Stmt} : Dss X sts dNever := ⟨fun _ _ _ _ _ _ _ _ _ _ h => h.elim⟩
theorem ds_never {X : Cx} {st : Stmt} : Ds X st dNever := ⟨fun _ _ _ _ _ _ _ _ _ _ h => h.elim⟩
end TC
namespace TC
open PySem PySem.Spec PyProof.Rows L2
variable [Cl]
section
variable {X : Cx} {a : Expr} {ta : DE} {pos : Pos}
theorem dt_isN {j pos'} (ha : De X a ta) : Dt X (.Compare a [.Is] [.Constant .none j pos'] pos) (dB (dIsN false ta)) := by
  refine ⟨fun w σ H env m Q' Q sl hu h c => wpT_of (pt_cmp (pc_isN pe_self)) ?_⟩
  refine ha.run w σ H env m _ _ sl hu h fun v d m1 H1 f1 u1 h1 q1 => ?_
  rw [h1.isNon]
  obtain ⟨b, e, q⟩ := q1
  refine ⟨_, rfl, c _ _ _ f1 u1 ?_⟩
  injection e with e
  subst e
  cases d <;> exact q
theorem dt_notN {j pos'} (ha : De X a ta) : Dt X (.Compare a [.IsNot] [.Constant .none j pos'] pos) (dB (dIsN true ta)) := by
  refine ⟨fun w σ H env m Q' Q sl hu h c => wpT_of (pt_cmp (pc_notN pe_self)) ?_⟩
  refine ha.run w σ H env m _ _ sl hu h fun v d m1 H1 f1 u1 h1 q1 => ?_
  rw [h1.isNon]
  obtain ⟨b, e, q⟩ := q1
  refine ⟨_, rfl, c _ _ _ f1 u1 ?_⟩
  injection e with e
  subst e
  cases d <;> exact q
end
end TC
namespace TC
open PySem PySem.Spec PyProof.Rows L2
variable [Cl]
section
variable {X : Cx} {k : Nat} {f : Addr} {fd : FuncData} {ps : List Str} {sp : DSp} {x : Str} {p pos : Pos}
theorem de_call0 (F : FnOk X.prog X.w X.K X.mg X.base CX0 k f fd ps (spD sp)) (hr : Room k X.A) (hm : X.mg x = some (.ref f)) (hk : PySem.W.keepIn X.K (.ref f) = true) (hb : Binds X.K fd ps []) (hg : Gl X x := by rfl)
    (hdb : (x == ("__debug__" : Str)) = false := by decide) : De X (.Call (.Name x p) [] [] pos) (fun env m Q => sp [] m Q) := by
  refine ⟨fun w σ H env m Q' Q sl hu h c => wp_of (pe_call0 F hr hg hm hk hb .nil pass0 hdb) ?_⟩
  exact ⟨w, [], m, _, .nil, hu, h, c⟩
/-- what len gives -/
def lenD (ds : List D) (m : Nat) (Q : D → Nat → Prop) : Prop := match ds with
  | [.lst l] => Q (.int (l.length : Nat)) m
  | [.tup l] => Q (.int (l.length : Nat)) m
  | [.str z] => z.length ≤ sizeLine ∧ Q (.int (z.length : Nat)) m
  | _ => False
theorem dc_lenA (hK : X.K = Cl.K := by rfl) : DCall X (.builtin "len") lenD := by
  refine ⟨fun w H m vs ds Q' Q hu hs h c => ?_⟩
  unfold lenD at h
  split at h
  · exact (dc_len hK).run w H m vs _ Q' Q hu hs ⟨_, .inl rfl, h⟩ c
  · exact (dc_len hK).run w H m vs _ Q' Q hu hs ⟨_, .inr rfl, h⟩ c
  · exact dc_lenS.run w H m vs _ Q' Q hu hs ⟨_, rfl, h⟩ c
  · exact h.elim
def seqD (ds : List D) (Q : List D → Prop) : Prop := match ds with
  | [.lst l] => Q l
  | [.tup l] => Q l
  | _ => False
def tupD (ds : List D) (m : Nat) (Q : D → Nat → Prop) : Prop := match ds with
  | [.lst l] => Q (.tup l) m
  | [.tup l] => Q (.tup l) m
  | _ => False
theorem dc_tupleA (hK : X.K = Cl.K := by rfl) : DCall X (.type "tuple") tupD := by
  refine ⟨fun w H m vs ds Q' Q hu hs h c => ?_⟩
  unfold tupD at h
  split at h
  · exact (dc_tuple hK).run w H m vs _ Q' Q hu hs ⟨_, .inl rfl, h⟩ c
  · exact (dc_tuple hK).run w H m vs _ Q' Q hu hs ⟨_, .inr rfl, h⟩ c
  · exact h.elim
theorem dc_listA (hK : X.K = Cl.K := by rfl) : DCall X (.type "list") (fun ds m Q => seqD ds fun l => Q (.lst l) m) := by
  refine ⟨fun w H m vs ds Q' Q hu hs h c => ?_⟩
  unfold seqD at h
  split at h
  · exact (dc_list hK).run w H m vs _ Q' Q hu hs ⟨_, .inl rfl, h⟩ c
  · exact (dc_list hK).run w H m vs _ Q' Q hu hs ⟨_, .inr rfl, h⟩ c
  · exact h.elim
theorem do_pow : DOp X (binaryOp .Pow) (dI CPow fun i j => .int (i ^ j.toNat)) := do_I op_pow fun _ _ => ⟨rfl, rfl⟩
theorem dc_abs : DCall X (.builtin "abs") (fun ds m Q => ∃ i, ds = [.int i] ∧ Q (.int (if i < 0 then -i else i)) m) := by
  refine ⟨fun w H m vs ds Q' Q hu hs h c => ?_⟩
  obtain ⟨i, rfl, q⟩ := h
  obtain ⟨v, xs, rfl, h1, h2⟩ := hs.uncons
  cases h2.unnil
  rw [Hd.int] at h1; subst h1
  exact wpC_of call_abs ⟨_, rfl, c _ _ _ _ (Fr.refl _ _) hu (Hd.int.mpr rfl) q⟩
/-! ### a name walked: a list or a tuple or a text -/
def signsD (z : Str) : List D := z.cps.toList.map fun c => D.str ⟨#[c]⟩
theorem walks_str {w : W} {H0 : Hp} {z : Str} : Walks w H0 (Its z) (signsD z) := by
  have wl := walk_str (z := z)
  have hl : (signsD z).length = z.cps.size := by simp [signsD]
  refine ⟨⟨_, _, by rw [hl]; exact wl, fun w2 g H1 f => ⟨trivial, fun i x H2 m hi hu y => ?_⟩⟩⟩
  obtain ⟨rfl, c, e, rfl⟩ := y
  have hz : z.cps.toList[i]? = some c := by rw [Array.getElem?_toList]; exact e
  exact ⟨Fr.refl _ _, hu, fun _ z => z, .str ⟨#[c]⟩, by simp only [signsD, List.getElem?_map, hz]; rfl, Hd.str.mpr rfl⟩
def walkD (d : D) (Q : List D → Prop) : Prop := match d with
  | .lst l => Q l
  | .tup l => Q l
  | .str z => Q (signsD z)
  | _ => False
theorem di_var {tg : Expr} (i : Nat) (hd : De X (.Name x pos) (dVar i)) (hK : X.K = Cl.K := by rfl) :
    Di X tg (.Name x pos) (fun env m Q => ∃ d, env[i]? = some (some d) ∧ walkD d fun l => Q l m) := by
  refine ⟨fun w σ H env m Q' R sl hu hh c => ?_⟩
  obtain ⟨d, e, q⟩ := hh
  unfold walkD at q
  split at q
  · exact (di_lst hd (pi_list pe_self)).run w σ H env m Q' R sl hu ⟨_, e, _, rfl, q⟩ c
  · exact (di_tup hd (pi_tup pe_self) hK).run w σ H env m Q' R sl hu ⟨_, e, _, rfl, q⟩ c
  · refine wpI_of (pi_str pe_self) ?_
    refine hd.run w σ H env m (fun d mm => ∃ z, d = .str z ∧ Q' (signsD z) mm) _ sl hu ⟨_, e, _, rfl, q⟩ fun v d m1 H1 f1 u1 h1 q1 => ?_
    obtain ⟨z, rfl, q1⟩ := q1
    rw [Hd.str] at h1
    exact ⟨z, h1, c _ _ _ _ f1 u1 walks_str q1⟩
  · exact q.elim
/-! ### three names at once -/
def dPar3 (i j k : Nat) (ta : DA) : DS := fun nx _ env m => ta env m fun ds m1 => ∃ a b c, ds = [a, b, c] ∧ nx (((env.set i (some a)).set j (some b)).set k (some c)) m1
theorem ds_par3 {i j k : Nat} {x y z : Str} {a b c : Expr} {ta : DA} {px py pz pt : Pos} {kt k2 pt2} (hc : X.calm = true) (hN : X.N.Nodup) (ha : Da X [a, b, c] ta) (hi : X.N[i]? = some x := by rfl) (hj : X.N[j]? = some y := by rfl) (hk : X.N[k]? = some z := by rfl) (hij : i ≠ j := by decide) (hik : i ≠ k := by decide) (hjk : j ≠ k := by decide)
    (hx : X.env.scope.names.lookup x = some .local := by rfl) (hy : X.env.scope.names.lookup y = some .local := by rfl) (hz : X.env.scope.names.lookup z = some .local := by rfl)
    (hw : swappedStores [.Tuple [.Name x px, .Name y py, .Name z pz] kt pt] (.Tuple [a, b, c] k2 pt2) X.env = pure (some [x, y, z]) := by rfl)
    (hs : swapsWithSole [.Tuple [.Name x px, .Name y py, .Name z pz] kt pt] (.Tuple [a, b, c] k2 pt2) pos.line X.env = pure false := by rfl) :
    Ds X (.Assign [.Tuple [.Name x px, .Name y py, .Name z pz] kt pt] (.Tuple [a, b, c] k2 pt2) pos) (dPar3 i j k ta) := by
  refine ⟨fun w σ H env m nx rt Dn sl hu h cn r => wpS_of (ps_par3 hc hN hi hj hk hij hik hjk hx hy hz pa_self hw hs) ?_⟩
  refine ha.run w σ H env m _ _ sl hu h fun vs ds m1 H1 f1 u1 h1 q1 => ?_
  obtain ⟨a, b, c, rfl, q⟩ := q1
  obtain ⟨v1, r1, rfl, k1, k2⟩ := h1.uncons
  obtain ⟨v2, r2, rfl, k3, k4⟩ := k2.uncons
  obtain ⟨v3, r3, rfl, k5, k6⟩ := k4.uncons
  cases k6.unnil
  exact ⟨v1, v2, v3, rfl, cn _ _ _ _ f1 u1 ((((sl.fr f1).set i k1).set j k3).set k k5) q⟩
end
end TC
namespace TC
open PySem PySem.Spec PyProof.Rows L2
variable [Cl]
/-! ### the same data, by a look -/
mutual
def beqD : D → D → Bool
  | .non, .non => true
  | .bl a, .bl b => a == b
  | .int a, .int b => decide (a = b)
  | .str a, .str b => decide (a = b)
  | .lst a, .lst b => beqL a b
  | .tup a, .tup b => beqL a b
  | .urn, .urn => true
  | _, _ => false
def beqL : List D → List D → Bool
  | [], [] => true
  | a :: l, b :: r => beqD a b && beqL l r
  | _, _ => false
end
mutual
theorem beqD_eq : ∀ {a b : D}, beqD a b = true → a = b
  | .non, b, h => by cases b <;> simp_all [beqD]
  | .bl a, b, h => by cases b <;> simp_all [beqD]
  | .int a, b, h => by cases b <;> simp_all [beqD]
  | .str a, b, h => by cases b <;> simp_all [beqD]
  | .urn, b, h => by cases b <;> simp_all [beqD]
  | .dct l, b, h => by cases b <;> simp_all [beqD]
  | .tupz l, b, h => by cases b <;> simp_all [beqD]
  | .lst l, b, h => by
    cases b with
    | lst r => rw [beqD] at h; rw [beqL_eq h]
    | _ => simp [beqD] at h
  | .tup l, b, h => by
    cases b with
    | tup r => rw [beqD] at h; rw [beqL_eq h]
    | _ => simp [beqD] at h
theorem beqL_eq : ∀ {a b : List D}, beqL a b = true → a = b
  | [], b, h => by cases b <;> simp_all [beqL]
  | a :: l, b, h => by
    cases b with
    | nil => simp [beqL] at h
    | cons b r =>
      rw [beqL] at h
      simp only [Bool.and_eq_true] at h
      rw [beqD_eq h.1, beqL_eq h.2]
end
end TC
namespace TC
open PySem PySem.Spec PyProof.Rows L2
variable [Cl]
/-- the inner question of a comprehension over 0, 1, .. -/
theorem lc_in {i : Nat} {de : DE} {vs : List Nat} {env : Env} {m : Nat} {Q : List D → Nat → Prop} (N : Nat) (g : Nat → D)
    (he : ∀ k, k < N → ∀ mm (R : D → Nat → Prop), R (g k) mm → de ((wipeE env vs).set i (some (.int (k : Int)))) mm R) (q : Q ((List.range N).map g) m) :
    lcIn (dgName i) dYes de (wipeE env vs) (nats N) m Q := by
  have hl : (nats N).length = N := by simp [nats]
  refine ⟨fun k acc mm => mm = m ∧ acc = (List.range k).map g, ⟨rfl, rfl⟩, ?_, ?_⟩
  · rintro k d acc mm hd ⟨rfl, rfl⟩
    have hk : k < N := by
      obtain ⟨h1, _⟩ := List.getElem?_eq_some_iff.mp hd
      rw [hl] at h1; exact h1
    rw [nats_get hk] at hd
    cases hd
    refine he k hk mm _ ⟨rfl, ?_⟩
    rw [List.range_succ]
    simp
  · rintro acc mm ⟨rfl, rfl⟩
    rw [hl]
    exact q
end TC
namespace TC
open PySem PySem.Spec PyProof.Rows L2
variable [Cl]
theorem atD {l : List D} {z : Int} (j : Nat) {d : D} (e : z = (j : Int)) (h : l[j]? = some d) : atI l z = some d := by rw [e]; exact atI_nat h
end TC
namespace TC
open PySem PySem.Spec PyProof.Rows L2
variable [Cl]
/-- the part of a law over one urn -/
def spR (B : Nat) : DSp := fun ds m Q => ds = [.urn] ∧ B ≤ m ∧ ∀ mm, Q (.bl true) mm
def spBoxK (K : PySem.W.Frag) : Sp := fun vs H Q _ => ∃ (a : Addr) (ns : List Int) (k : Int), vs = [.ref a, .int k] ∧ SqL K H a (ns.map V.int) ∧ 0 ≤ k ∧ k < (ns.length : Nat) ∧ ns.length ≤ 1000 ∧
  ∀ H' p x y, Same H H' → H p = none → H' p = some (.lst [.int x, .int y, .int 0]) → Q (.ref p) H'
def dRB (ta tb : DE) : DE := fun env m Q => ta env m fun x m1 => tb env m1 fun y m2 => ∃ (ns : List Int) (k : Int), x = .lst (ns.map D.int) ∧ y = .int k ∧ 0 ≤ k ∧ k < (ns.length : Nat) ∧ ns.length ≤ 1000 ∧ Q (.bl true) m2
section
variable {X : Cx} {kR kB B : Nat} {fR fB : Addr} {fdR fdB : FuncData} {psR psB : List Str} {xR xB : Str} {p p2 pos pos2 : Pos} {e1 e2 : Expr} {ta tb : DE}
theorem de_rb (FR : FnOk X.prog X.w X.K X.mg X.base CX0 kR fR fdR psR (spD (spR B))) (hB : (B : Int) ≤ MAXC) (FB : FnOk X.prog X.w X.K X.mg X.base CX0 kB fB fdB psB (spBoxK X.K)) (hr : Room kR X.A) (hr2 : Room kB X.A) (hmR : X.mg xR = some (.ref fR)) (hkR : PySem.W.keepIn X.K (.ref fR) = true) (hbR : Binds X.K fdR psR [])
    (hmB : X.mg xB = some (.ref fB)) (hkB : PySem.W.keepIn X.K (.ref fB) = true) (hbB : Binds X.K fdB psB []) (ha : De X e1 ta) (hb : De X e2 tb) (hgR : Gl X xR := by rfl) (hgB : Gl X xB := by rfl) (hdR : (xR == ("__debug__" : Str)) = false := by decide) (hdB : (xB == ("__debug__" : Str)) = false := by decide)
    (hs1 : starEach [.Call (.Name xB p2) [e1, e2] [] pos2] X.env = (false, eval (.Call (.Name xB p2) [e1, e2] [] pos2) X.env) :: starEach [] X.env := by rfl) (hs2 : starEach [e1, e2] X.env = (false, eval e1 X.env) :: starEach [e2] X.env := by rfl) (hs3 : starEach [e2] X.env = (false, eval e2 X.env) :: starEach [] X.env := by rfl)
    (hp1 : (backTo pos (starEach [] X.env)).any (·.1) = false := by rfl) (hp2 : (backTo pos2 (starEach [e2] X.env)).any (·.1) = false := by rfl) :
    De X (.Call (.Name xR p) [.Call (.Name xB p2) [e1, e2] [] pos2] [] pos) (dRB ta tb) := by
  refine ⟨fun w σ H env m Q' Q sl hu h c => wp_of (pe_call FR hr hgR hmR hkR hbR .nil pass0 (pa_cons (pe_call FB hr2 hgB hmB hkB hbB .nil pass0 (pa_cons pe_self (pa_cons pe_self pa_nil hs3) hs2) hdB hs2 hp2) pa_nil hs1) hdR hs1 hp1) ?_⟩
  refine ha.run w σ H env m _ _ sl hu h fun v d m1 H1 f1 u1 h1 q1 => ?_
  refine hb.run w σ H1 env m1 _ _ (sl.fr f1) u1 q1 fun v2 d2 m2 H2 f2 u2 h2 q2 => ?_
  obtain ⟨ns, k, rfl, rfl, k0, k1, kl, q⟩ := q2
  have h1 := h1.fr f2
  rw [Hd.lst] at h1
  rw [Hd.int] at h2
  obtain ⟨a, vs, rfl, na, hp, hds⟩ := h1
  subst h2
  have e := hds.flat (by rw [List.all_eq_true]; intro d hd; obtain ⟨b, _, rfl⟩ := List.mem_map.mp hd; rfl)
  have e2 : (ns.map D.int).map fv = ns.map V.int := by rw [List.map_map]; rfl
  rw [e2] at e
  subst e
  refine ⟨a, ns, k, rfl, SqL.of hp, k0, k1, kl, fun H' pn x y sm np hpn => ?_⟩
  have up : UI ⟨some pn, [], [], fun _ h => h⟩ B H' := ⟨fun b hb => by cases hb; exact ⟨x, y, 0, hpn, Int.le_refl _, by simpa using hB⟩, fun b hb => by simp at hb⟩
  refine ⟨⟨some pn, [], [], fun _ h => h⟩, [.urn], B, fun d mm => d = .bl true, .cons (by unfold Hd; exact ⟨pn, rfl, rfl⟩) .nil, up, ⟨rfl, Nat.le_refl _, fun mm => rfl⟩, fun v d m' H3 f3 u3 h3 q3 => ?_⟩
  subst q3
  rw [Hd.bl] at h3
  subst h3
  have keep : ∀ b o, H2 b = some o → H3 b = some o := fun b o e => f3 b o (fun z => by cases z; rw [np] at e; cases e) (sm b o e)
  refine c _ _ m2 H3 (fun b o nb e => keep b o ((f1.trans f2) b o nb e)) ⟨fun b hb => ?_, fun b hb => ?_⟩ (Hd.bl.mpr rfl) q
  · obtain ⟨x, y, z, e, r⟩ := u2.1 b hb
    exact ⟨x, y, z, keep _ _ e, r⟩
  · obtain ⟨o, e⟩ := u2.2 b hb
    exact ⟨o, keep _ _ e⟩
end
end TC
namespace TC
open PySem PySem.Spec PyProof.Rows L2
variable [Cl]
/-! ### len(set(a tuple of texts)), of any texts -/
/-- how many unlike ones the first i are -/
def cnt (xs : List Str) : Nat → Nat
  | 0 => 0
  | i + 1 => if (xs.take i).any (· == xs.getD i Str.empty) then cnt xs i else cnt xs i + 1
theorem cnt_le (xs : List Str) : ∀ i, cnt xs i ≤ i
  | 0 => Nat.le_refl _
  | i + 1 => by
    have := cnt_le xs i
    rw [cnt]
    split <;> omega
abbrev newSet (led : Bool) : Obj := { cls := .type "set", dict := none, data := .set #[] 0 (.fresh 0 0 led) }
/-- the set at S holds the first i of xs -/
abbrev Holds (prog : Program) (w : World) (h : Heap) (S : Addr) (xs : List Str) (i : Nat) : Prop :=
  h.SetOf (PySem.strKind prog w) S (fun z => (xs.take i).any (· == z)) (cnt xs i)
section
variable {prog : Program} {w : World} {A : Around} {R : Result → Shared → Prop} {E : Value → Shared → Prop} {J : Addr} {fp wr : List Addr} {G : Array GenState → Array GenState → Prop} {n : Nat} {P : Nat → Value → Prop} {St : Nat → Shared → Prop}
theorem Holds.moves {h h' : Heap} {S : Addr} {xs : List Str} {i : Nat} (H : Holds prog w h S xs i) (m : ∀ o, h.get? S = some o → h'.get? S = some o) : Holds prog w h' S xs i := by
  obtain ⟨o, es, ep, t, ho, more⟩ := H
  exact ⟨o, es, ep, t, m o ho, more⟩
theorem take_any {xs : List Str} {i : Nat} (hi : i < xs.length) (z : Str) : (xs.take (i + 1)).any (· == z) = ((xs.take i).any (· == z) || decide (z = xs.getD i Str.empty)) := by
  have e : xs.getD i Str.empty = xs[i] := by simp [hi]
  rw [List.take_add_one, List.getElem?_eq_getElem hi, List.any_append, e]
  congr 1
  by_cases h : xs[i] = z
  · subst h; simp
  · have h' : ¬ z = xs[i] := fun q => h q.symm
    simp [h, h']
theorem set_turns (Wk : WalksS prog w A.in1 J fp wr G n P St) (S : Addr) (out : S ∉ fp) (xs : List Str) (hx : xs.length = n) (hn : n ≤ 4000)
    (val : ∀ i v, P i v → ∃ t, v = .str (xs.getD i Str.empty) t) (left : Nat) :
    ∀ (i : Nat) (s : Shared), i + left = n → St i s → Holds prog w s.heap S xs i →
      (∀ s', Moved (S :: wr) G s s' → Holds prog w s'.heap S xs n → R (.ok (.ret .none)) s') →
      codeAny (model prog w) A (.builtin "set.update.loop" ⟨[.ref S, .ref J], []⟩) R s := by
  have outw : S ∉ wr := fun h => out (Wk.sub _ h)
  have wider : ∀ b ∈ wr, b ∈ S :: wr := fun b hb => List.mem_cons_of_mem _ hb
  induction left with
  | zero =>
    intro i s hi st hS fin
    have hi : i = n := by omega
    subst hi
    refine codeAny_builtin PyProof.Rows.F.entry_set_update_loop ?_
    rw [Around.under_plainId PyProof.Rows.F.plain_set_update_loop _]
    refine wpAny_bind (Wk.done s _ _ st fun s' mv => ?_)
    exact wpAny_pure (fin s' (mv.mono wider) (hS.moves fun o e => mv.heap S o outw e))
  | succ left ih =>
    intro i s hi st hS fin
    have lt : i < n := by omega
    refine codeAny_builtin PyProof.Rows.F.entry_set_update_loop ?_
    rw [Around.under_plainId PyProof.Rows.F.plain_set_update_loop _]
    refine wpAny_bind (Wk.item i s _ _ lt st fun v s' hP st' mv => ?_)
    obtain ⟨t, rfl⟩ := val i v hP
    have hS1 := hS.moves (h' := s'.heap) fun o e => mv.heap S o outw e
    show wpAny _ A.in1 (holding [Value.str (xs.getD i Str.empty) t] (setAdd S (.str (xs.getD i Str.empty) t)) >>= _) _ _ s'
    refine wpAny_bind (wpAny_holding ?_)
    unfold setAdd
    refine wpAny_holding (wpAny_bind ((PySem.strKind prog w).pyHash (k := xs.getD i Str.empty) (strKind_is _ _ _ _) ?_))
    have room : cnt xs i + 1 < scanBound := by have := cnt_le xs i; unfold scanBound; omega
    refine wpAny_setAddHashed_of (knd := PySem.strKind prog w) (s := { s' with toks := s'.toks + 1 }) (strKind_is _ _ _ _) rfl hS1 room fun h' same hS2 => ?_
    have hS3 : Holds prog w h' S xs (i + 1) := by
      refine SetOf_congr hS2 (fun z => ?_) ?_
      · exact (take_any (by omega) z).symm
      · show (if _ = true then _ else _) = cnt xs (i + 1)
        rw [cnt]
    refine wpAny_pure ⟨plainId_quiet PyProof.Rows.F.plain_set_update_loop _, ih (i + 1) _ (by omega) (Wk.frame _ s' _ _ st' (Nat.le_succ _) fun b hb o e => ?_) hS3 fun s2 mv2 hS4 => ?_⟩
    · rw [same.2 b (fun q => out (q ▸ hb))]
      exact e
    · refine fin s2 (Moved.trans Wk.gtrans ((mv.mono wider).then_heap (Nat.le_succ _) fun b o hb e => ?_) mv2) hS4
      rw [same.2 b (fun q => hb (q ▸ List.mem_cons_self))]
      exact e
end
end TC
namespace TC
open PySem PySem.Spec PyProof.Rows L2
variable [Cl]
section
variable {prog : Program} {w : World} {A : Around} {E : Value → Shared → Prop} {s : Shared}
set_option maxHeartbeats 3200000 in
theorem set_of_tuple {l : Addr} {its : Array Value} {xs : List Str} {Q : Value → Shared → Prop} (calm : A.handled = none) (hl : s.heap.IsTuple l its) (hv : StrsAre its.toList xs) (hn : xs.length ≤ 4000)
    (fin : ∀ (h' : Heap) (tk : Nat), Holds prog w h' s.heap.objs.size xs its.size → (∀ b o, b < s.heap.objs.size → s.heap.get? b = some o → h'.get? b = some o) → Q (.ref s.heap.objs.size) { s with heap := h', toks := tk }) :
    wpAny (model prog w) A (call (.type "set") [.ref l]) Q E s := by
  obtain ⟨c, tl, hmro⟩ := PySem.F.called_set.mro
  have k1 := PySem.F.called_set.made
  have k2 := PySem.F.called_set.sub
  refine wpAny_call (codeAny_of_tree ?_)
  refine wpAny_pure ⟨Code.quiet_builtin _ (by decide +kernel), codeAny_builtin PySem.F.entry_type_call ?_⟩
  rw [Around.under_plain (weight_type_call_type "set" [.ref l] []) rfl]
  have k3 := PySem.F.called_set.notType
  have k4 := PySem.F.called_set.canCreate
  have k5 := PySem.F.typeCall_set_1 (.ref l)
  repeat (any_goals (first | assumption | wp_step))
  refine codeAny_mono (code_set_new_1 (.ref l) (E := E) (Q₁ := fun obj s1 => ∃ led : Bool, obj = .ref s.heap.objs.size ∧ s1 = { s with heap := s.heap.push (newSet led) }) fun led => ⟨led, rfl, rfl⟩) fun r s1 hr => ?_
  match r, hr with
  | .error e, hr => exact hr
  | .ok (.ret obj), hr =>
    obtain ⟨led, rfl, rfl⟩ := hr
    have at0 : (s.heap.push (newSet led)).get? s.heap.objs.size = some (newSet led) := Heap.get?_push_size _ rfl
    have ty0 : Shared.TypeIs { s with heap := s.heap.push (newSet led) } (.ref s.heap.objs.size) "set" := ⟨_, at0, rfl⟩
    have k6 := PySem.F.called_set.init.lookup
    have k7 := PySem.F.called_set.init.bind (.ref s.heap.objs.size)
    repeat (any_goals (first | assumption | wp_step))
    refine codeAny_mono (codeAny_call_builtin (R := wants (fun r s2 => r = .none ∧ ∃ h' tk, s2 = { s with heap := h', toks := tk } ∧ Holds prog w h' s.heap.objs.size xs its.size ∧ (∀ b o, b < s.heap.objs.size → s.heap.get? b = some o → h'.get? b = some o)) E)
      PySem.F.called_set.init.plain PySem.F.entry_set_init (check_set_init_1 ty0 ?_)) fun r2 s2 hr2 => ?_
    · obtain ⟨⟨cl, di, da, sl⟩, hol, hcl, nl, hdl⟩ := hl
      simp only at hcl hdl
      subst hcl; subst hdl
      have hol2 : (s.heap.push (newSet led)).get? l = some { cls := .type "tuple", dict := di, data := .seq its nl, slots := sl } := Heap.get?_push_of_some _ hol
      have q1 := PySem.F.sub_tuple_set
      have q2 := PySem.F.sub_tuple_frozenset
      have q3 : (Value.type "tuple" == Value.type "dict") = false := by decide
      have hl2 : (s.heap.push (newSet led)).IsTuple l its := ⟨_, hol2, rfl, nl, rfl⟩
      have lt : l < s.heap.objs.size := Heap.lt_size hol
      have two : (s.heap.push (newSet led)).objs.size = s.heap.objs.size + 1 := Heap.size_push ..
      unfold Builtin.«set.__init__» noKeywords Builtin.Frozenset.updateFrom
      generalize hPI : pyIter = PI
      wp_walk
      subst hPI
      refine wpAny_pyIter_tuple hl2 (wpAny_bind (wpAny_runValue ?_))
      have still : A.in1.in1.in1.handled = none := by simp [calm]
      have lI : l ≠ (s.heap.push (newSet led)).objs.size := by rw [two]; exact Nat.ne_of_lt (Nat.lt_succ_of_lt lt)
      have out : s.heap.objs.size ∉ [(s.heap.push (newSet led)).objs.size, l] := by
        rw [two]
        simp only [List.mem_cons, List.not_mem_nil, or_false, not_or]
        exact ⟨Nat.ne_of_lt (Nat.lt_succ_self _), Nat.ne_of_gt lt⟩
      have hx : xs.length = its.size := by rw [← StrsAre.len_eq hv, Array.length_toList]
      refine set_turns ((Walks.tuple still _ l lI its).toS) s.heap.objs.size out xs hx (by omega) (fun i v e => SS.strs_at hv i v (by rw [Array.getElem?_toList]; exact e)) its.size 0 _ (by omega) ⟨⟨_, Heap.get?_push_size _ rfl, rfl, rfl⟩, hl2.push _⟩ ?_ ?_
      · refine PyProof.Rows.SetOf_congr ((PyProof.Rows.setObjOf_fresh (knd := PySem.strKind prog w) led).setOf (Heap.get?_push_of_some _ at0) (by unfold scanBound; omega)) (fun _ => rfl) rfl
      · rintro ⟨h', g', d', tk', os'⟩ mv hS
        obtain rfl : g' = s.gens := mv.gens
        obtain rfl : d' = s.drawn := mv.drawn
        obtain rfl : os' = s.os := mv.os
        show wpAny _ _ _ _ _ _
        refine wpAny_pure (wpAny_pure ⟨rfl, h', tk', rfl, hS, fun b o hb e => ?_⟩)
        refine mv.heap b o ?_ (Heap.get?_push_of_some _ (Heap.get?_push_of_some _ e))
        rw [two]
        simp only [List.mem_cons, List.not_mem_nil, or_false, not_or]
        exact ⟨Nat.ne_of_lt hb, Nat.ne_of_lt (Nat.lt_succ_of_lt hb)⟩
    · match r2, hr2 with
      | .error e, hr2 => exact hr2
      | .ok (.ret r), hr2 =>
        obtain ⟨rfl, h', tk, rfl, hS, hk⟩ := hr2
        repeat (any_goals (first | assumption | wp_step))
        exact fin _ _ hS hk
      | .ok .next, hr2 => exact hr2.elim
      | .ok .brk, hr2 => exact hr2.elim
      | .ok .cont, hr2 => exact hr2.elim
  | .ok .next, hr => exact hr.elim
  | .ok .brk, hr => exact hr.elim
  | .ok .cont, hr => exact hr.elim
end
end TC
namespace TC
open PySem PySem.Spec PyProof.Rows L2
variable [Cl]
section
variable {X : Cx} {a b c e elt tg iter : Expr} {te ta tb tc : DE} {pos p p2 q : Pos}
def dLenSet (te : DE) : DE := fun env m Q => te env m fun d m1 => ∃ xs : List Str, d = .tup (xs.map D.str) ∧ xs.length ≤ 4000 ∧ Q (.int (cnt xs xs.length : Nat)) m1
theorem de_lenset (hm : X.mg "len" = none) (hm2 : X.mg "set" = none) (ha : De X a te) (hc : X.calm = true := by rfl) (hg : Gl X "len" := by rfl) (hg2 : Gl X "set" := by rfl) (na : starEach [a] X.env = (false, eval a X.env) :: starEach [] X.env := by rfl) (hK : X.K = Cl.K := by rfl) :
    De X (.Call (.Name "len" p) [.Call (.Name "set" p2) [a] [] q] [] pos) (dLenSet te) := by
  refine ⟨fun w σ H env m Q' Q sl hu h k pins s I => ?_⟩
  refine Call_ (ld_blt I hg hm boot_len ?_)
  refine PyProof.Rows.callWith_builtin1 (PyProof.Rows.args_cons ?_ rfl) rfl rfl
  refine Call_ (ld_blt I hg2 hm2 boot_set ?_)
  have got := ha.run w σ H env m _ (fun v H1 => ∃ (l : Addr) (xs : List Str), v = .ref l ∧ SqT X.K H1 l (xs.map V.str) ∧ xs.length ≤ 4000 ∧ Q (.int (cnt xs xs.length : Nat)) H1) sl hu h (fun v d m1 H1 f1 u1 h1 q1 => by
    obtain ⟨xs, rfl, hl, q1⟩ := q1
    rw [Hd.tup] at h1
    obtain ⟨l, vs, rfl, hp, hds⟩ := h1
    have := hds.flat (by rw [List.all_eq_true]; intro d hd; obtain ⟨b, _, rfl⟩ := List.mem_map.mp hd; rfl)
    have e2 : (xs.map D.str).map fv = xs.map V.str := by rw [List.map_map]; rfl
    rw [e2] at this
    subst this
    exact ⟨l, xs, rfl, hp.sq hK, hl, k _ _ _ _ f1 u1 (Hd.int.mpr rfl) q1⟩) pins s I
  refine PyProof.Rows.callWith_type1 (PyProof.Rows.args_cons (thn got fun v s1 ⟨x, H1, I1, r1, q1⟩ => PyProof.Rows.args_nil ?_) na) na rfl
  obtain ⟨l, xs, rfl, hq, hl, q1⟩ := q1
  cases r1
  obtain ⟨its, r, pl, hz⟩ := I1.tuple hq
  have size : its.toArray.size = xs.length := by rw [List.size_toArray, ← r.length, List.length_map]
  refine set_of_tuple (I1.ok.hd hc) pl (by simpa using strsAre_of r) hl fun h' tk hS hk => ?_
  refine PyProof.Rows.args_nil ?_
  rw [size] at hS
  obtain ⟨o, es, ep, t, ho, hex, hd, _, _, _, hf, hn⟩ := hS
  have I2 : Inv X pins σ H1 { s1 with heap := h', toks := tk } := I1.kept fun b o e => hk b o (Heap.lt_size e) e
  have small := cnt_le xs xs.length
  exact call_len_set ho hex hd hf (by rw [hn] <;> omega) ⟨.int (cnt xs xs.length : Nat), H1, I2.tok _, ⟨_, by rw [hn]⟩, q1⟩
/-! ### two comparisons at once -/
def dChain (t u : D2) (ta tb tc : DE) : DE := fun env m Q => ta env m fun x m1 => tb env m1 fun y m2 => t x y m2 fun z m3 => ∃ k, z = .bl k ∧ if k = true then tc env m3 fun v m4 => u y v m4 Q else Q (.bl false) m3
theorem de_chain {op op' : CmpOp} {t u : D2} (ho : DOp X (compareOp op) t) (ho' : DOp X (compareOp op') u) (ha : De X a ta) (hb : De X b tb) (hc : De X c tc) (hm : lastMarks [op, op'] [b, c] = false := by with_unfolding_all rfl) :
    De X (.Compare a [op, op'] [b, c] pos) (dChain t u ta tb tc) := by
  refine ⟨fun w σ H env m Q' Q sl hu h k => wp_of (pe_chain op_self op_self pe_self pe_self pe_self hm) ?_⟩
  refine ha.run w σ H env m _ _ sl hu h fun v d m1 H1 f1 u1 h1 q1 => ?_
  refine hb.run w σ H1 env m1 _ _ (sl.fr f1) u1 q1 fun v2 d2 m2 H2 f2 u2 h2 q2 => ?_
  refine ho.run w H2 m2 v v2 d d2 _ _ u2 (h1.fr f2) h2 q2 fun v3 d3 m3 H3 f3 u3 h3 q3 => ?_
  obtain ⟨b, rfl, q3⟩ := q3
  rw [Hd.bl] at h3; subst h3
  refine ⟨b, rfl, ?_⟩
  have fr := f1.trans (f2.trans f3)
  cases b with
  | false => exact iteF (k _ _ _ _ fr u3 (Hd.bl.mpr rfl) (by simpa using q3))
  | true =>
    refine iteT (hc.run w σ H3 env m3 _ _ (sl.fr fr) u3 (by simpa using q3) fun v4 d4 m4 H4 f4 u4 h4 q4 => ?_)
    exact ho'.run w H4 m4 v2 v4 d2 d4 _ _ u4 (h2.fr (f3.trans f4)) h4 q4 (k.from (fr.trans f4))
def dleS : D2 := fun x y m Q => match x, y with
  | .int i, .int j => Q (.bl (decide (i ≤ j))) m
  | .str i, .str j => Q (.bl (!decide (j.cps.toList < i.cps.toList))) m
  | _, _ => False
theorem do_leS : DOp X (compareOp .LtE) dleS := by
  refine ⟨fun w H m x y dx dy Q' Q hu hx hy h c => ?_⟩
  unfold dleS at h
  split at h
  · rw [Hd.int] at hx hy
    subst hx; subst hy
    exact wpOp_of op_le ⟨_, _, rfl, rfl, c _ _ _ _ (Fr.refl _ _) hu (Hd.bl.mpr rfl) h⟩
  · rw [Hd.str] at hx hy
    subst hx; subst hy
    exact wpOp_of op_le_str ⟨_, _, rfl, rfl, c _ _ _ _ (Fr.refl _ _) hu (Hd.bl.mpr rfl) h⟩
  · exact h.elim
theorem de_upper {apos : Pos} (ho : De X a ta) (hbase : attributeBase a "upper" X.env (eval a X.env) = eval a X.env := by rfl) (hline : (apos.endLine == pos.line) = true := by rfl) :
    De X (.Call (.Attribute a "upper" apos) [] [] pos) (fun env m Q => ta env m fun x m1 => ∃ z, x = .str z ∧ z.length ≤ 5592405 ∧ Q (.str (Txt.upper z)) m1) := by
  refine ⟨fun w σ H env m Q' Q sl hu h k => wp_of (pe_upper pe_self hbase hline) ?_⟩
  refine ho.run w σ H env m _ _ sl hu h fun v d m1 H1 f1 u1 h1 q1 => ?_
  obtain ⟨z, rfl, hz, q⟩ := q1
  rw [Hd.str] at h1; subst h1
  exact ⟨⟨z, rfl⟩, z, rfl, rfl, hz, k _ _ _ _ f1 u1 (Hd.str.mpr rfl) q⟩
end
end TC
namespace TC
open PySem PySem.Spec PyProof.Rows L2
variable [Cl]
section
variable {X : Cx}
/-- a text so many times -/
def repS (z : Str) (n : Nat) : Str := ⟨(List.replicate n z.cps).foldl (· ++ ·) #[]⟩
def dmul : D2 := fun x y m Q => match x, y with
  | .int i, .int j => CMul i j ∧ Q (.int (i * j)) m
  | .lst l, .int k => 0 ≤ k ∧ k < 2 ^ 63 ∧ l.length * k.toNat ≤ sizeLine ∧ Q (.lst (List.replicate k.toNat l).flatten) m
  | .str z, .int k => 2 ≤ k ∧ k ≤ 1000 ∧ 0 < z.length ∧ z.length ≤ 1000 ∧ Q (.str (repS z k.toNat)) m
  | _, _ => False
theorem Hds.rep {w : W} {H : Hp} {vs : List V} {ds : List D} (h : Hds w H vs ds) : ∀ n : Nat, Hds w H (List.replicate n vs).flatten (List.replicate n ds).flatten
  | 0 => .nil
  | n + 1 => by
    rw [List.replicate_succ, List.replicate_succ, List.flatten_cons, List.flatten_cons]
    exact h.app (h.rep n)
theorem fold_len (a : Array Nat) : ∀ (n : Nat) (acc : Array Nat), ((List.replicate n a).foldl (· ++ ·) acc).size = acc.size + n * a.size
  | 0, acc => by simp
  | n + 1, acc => by
    rw [List.replicate_succ, List.foldl_cons, fold_len a n, Array.size_append, Nat.succ_mul]
    omega
theorem rep_len (z : Str) (n : Nat) : (repS z n).length = n * z.length := by
  show ((List.replicate n z.cps).foldl (· ++ ·) #[]).size = n * z.cps.size
  rw [fold_len]
  simp
theorem op_mul_str {R : R2} (hR : ∀ x y H Q, R x y H Q → ∃ (z : Str) (k : Int), x = .str z ∧ y = .int k ∧ 2 ≤ k ∧ k ≤ 1000 ∧ 0 < z.length ∧ z.length ≤ 1000 ∧ Q (.str (repS z k.toNat)) H) : OpR X (binaryOp .Mult) R := by
  intro pins s σ H x y v u Q I rx ry h
  obtain ⟨z, k, rfl, rfl, k0, k1, z0, z1, q⟩ := hR _ _ _ _ h
  obtain ⟨t, rfl⟩ := rx
  obtain ⟨t2, rfl⟩ := ry
  have n1 : ¬ k < 1 := by omega
  have n2 : (k == 1 || z.length == 0) = false := by
    rw [Bool.or_eq_false_iff]
    exact ⟨by simp; omega, by simp; omega⟩
  have lim : z.length * k.toNat ≤ 1000 * 1000 := Nat.mul_le_mul z1 (by omega)
  have d1 : decide (k < -(2 ^ 63 : Int)) = false := decide_eq_false (by omega)
  have d2 : decide (k ≥ 2 ^ 63) = false := decide_eq_false (by omega)
  have fits : ∀ n : Nat, n ≤ 1000 * 1000 → Builtin.Str.tooLong n = false := fun n h => by
    unfold Builtin.Str.tooLong
    exact decide_eq_false (Nat.not_lt.mpr (Nat.le_trans h (by decide)))
  refine P.mul_str (by rw [d1, d2]; rfl) (fun _ _ => ?_) (fun _ _ => fits _ lim) ?_
  · intro big
    have h1 : (2 ^ 63 - 1) / k * k ≤ 2 ^ 63 - 1 := Int.ediv_mul_le _ (by omega)
    have h2 : (2 ^ 63 - 1 : Int) < ((2 ^ 63 - 1) / k + 1) * k := Int.lt_ediv_add_one_mul_self _ (by omega)
    have h3 : ((2 ^ 63 - 1) / k + 1) * k ≤ 1001 * 1000 := Int.mul_le_mul (by omega) k1 (by omega) (by omega)
    omega
  · rw [if_neg n1, if_neg (by rw [n2]; exact Bool.false_ne_true)]
    refine ⟨?_, .str (repS z k.toNat), H, I.tok _, ⟨_, rfl⟩, q⟩
    have := rep_len z k.toNat
    unfold repS at this
    rw [this]
    exact Nat.le_trans (by rw [Nat.mul_comm]; exact lim) (by decide)
theorem do_mulA : DOp X (binaryOp .Mult) dmul := by
  refine ⟨fun w H m x y dx dy Q' Q hu hx hy h c => ?_⟩
  unfold dmul at h
  split at h
  · rw [Hd.int] at hx hy
    subst hx; subst hy
    exact wpOp_of op_mul ⟨_, _, rfl, rfl, h.1, c _ _ _ _ (Fr.refl _ _) hu (Hd.int.mpr rfl) h.2⟩
  · rw [Hd.int] at hy
    rw [Hd.lst] at hx
    obtain ⟨a, vs, rfl, na, ha, hs⟩ := hx
    subst hy
    obtain ⟨k0, k1, k2, q⟩ := h
    refine wpOp_of op_rep ⟨_, _, _, rfl, rfl, ha, by omega, k1, by rw [hs.len]; exact k2, fun p hp => ?_⟩
    exact c _ _ _ _ (Fr.upd hp) (hu.upd hp) (new_lst hu (hs.rep _) hp) q
  · rw [Hd.int] at hy
    rw [Hd.str] at hx
    subst hx; subst hy
    obtain ⟨k0, k1, z0, z1, q⟩ := h
    refine wpOp_of (r := fun x y H Q => ∃ (z : Str) (k : Int), x = .str z ∧ y = .int k ∧ 2 ≤ k ∧ k ≤ 1000 ∧ 0 < z.length ∧ z.length ≤ 1000 ∧ Q (.str (repS z k.toNat)) H) (op_mul_str fun _ _ _ _ h => h) ?_
    exact ⟨_, _, rfl, rfl, k0, k1, z0, z1, c _ _ _ _ (Fr.refl _ _) hu (Hd.str.mpr rfl) q⟩
  · exact h.elim
end
end TC
namespace TC
open PySem PySem.Spec PyProof.Rows L2
variable [Cl]
theorem Hd.obj {w : W} {H : Hp} {v : V} {c : Nat} {l : List D} : Hd w H v (.obj c l) ↔ ∃ a dx vs, v = .ref a ∧ ¬ w.av a ∧ ¬ w.av dx ∧ H dx = some (.own a) ∧ H a = some (.ins (Cl.c c).1 dx ((Cl.c c).2.zip vs)) ∧ Hds w H vs l := by rw [Hd]
theorem zip_look : ∀ {ns : List Str} {vs : List V} {i : Nat} {f : Str} {x : V}, ns.Nodup → ns[i]? = some f → vs[i]? = some x → (ns.zip vs).lookup f = some x
  | n :: ns, v :: vs, 0, f, x, _, h1, h2 => by
    simp at h1 h2
    subst h1; subst h2
    simp
  | n :: ns, v :: vs, i + 1, f, x, nd, h1, h2 => by
    have hm : f ∈ ns := List.mem_of_getElem? (by simpa using h1)
    have hne : (f == n) = false := by
      rw [beq_eq_false_iff_ne]
      exact fun e => (List.nodup_cons.mp nd).1 (e ▸ hm)
    show ((n, v) :: ns.zip vs).lookup f = some x
    rw [List.lookup_cons, hne]
    exact zip_look (List.nodup_cons.mp nd).2 (by simpa using h1) (by simpa using h2)
section
variable {X : Cx} {e : Expr} {es : List Expr} {te : DE} {t : DA} {pos : Pos}
/-- o.f of an object of the class number c, its i-th field -/
def dFld (c i : Nat) (te : DE) : DE := fun env m Q => te env m fun d m1 => ∃ l x, d = .obj c l ∧ l[i]? = some x ∧ Q x m1
theorem de_fld {f : Str} (c i : Nat) (ha : De X e te) (hC : Cls X.K (Cl.c c).1) (hn : NoAttr X.K (Cl.c c).1 f) (hi : (Cl.c c).2[i]? = some f) (nd : (Cl.c c).2.Nodup) (hb : attributeBase e f X.env (eval e X.env) = eval e X.env := by rfl) :
    De X (.Attribute e f pos) (dFld c i te) := by
  refine ⟨fun w σ H env m Q' Q sl hu h k => wp_of (pe_fld pe_self hb) ?_⟩
  refine ha.run w σ H env m _ _ sl hu h fun v d m1 H1 f1 u1 h1 q1 => ?_
  obtain ⟨l, x, rfl, hx, q⟩ := q1
  rw [Hd.obj] at h1
  obtain ⟨a, dx, vs, rfl, na, nd2, hd, hp, hds⟩ := h1
  obtain ⟨y, hy, hyx⟩ := hds.get hx
  exact ⟨a, _, dx, _, y, rfl, hp, hC, hn, zip_look nd hi hy, k _ _ _ _ f1 u1 hyx q⟩
/-- o.f by a property: the getter's promise by data -/
theorem de_prop {k : Nat} {p g : Addr} {f : Str} {fd : FuncData} {ps : List Str} {sp : DSp} (c : Nat) (ha : De X e te) (hC : Cls X.K (Cl.c c).1) (hp : PropOf X.K (Cl.c c).1 f p g) (F : FnOk X.prog X.w X.K X.mg X.base CX0 k g fd ps (spD sp)) (hr : Room (k + 1) X.A) (hbd : Binds X.K fd ps [])
    (hb : attributeBase e f X.env (eval e X.env) = eval e X.env := by rfl) : De X (.Attribute e f pos) (fun env m Q => te env m fun d m1 => ∃ l, d = .obj c l ∧ sp [d] m1 Q) := by
  refine ⟨fun w σ H env m Q' Q sl hu h k => wp_of (pe_prop pe_self hC hp F hr hbd .nil pass0 hb) ?_⟩
  refine ha.run w σ H env m _ _ sl hu h fun v d m1 H1 f1 u1 h1 q1 => ?_
  obtain ⟨l, rfl, q⟩ := q1
  have h2 := h1
  rw [Hd.obj] at h1
  obtain ⟨a, dx, vs, rfl, na, nd2, hd, hpp, hds⟩ := h1
  exact ⟨a, dx, _, rfl, hpp, w, [.obj c l], m1, _, .cons h2 .nil, u1, q, k.from f1⟩
end
end TC
namespace TC
open PySem PySem.Spec PyProof.Rows L2
variable [Cl]
/-- an object of a class is written -/
theorem UI.inst {w : W} {m : Nat} {H : Hp} {a : Addr} {o : HO} (h : UI w m H) (n : ¬ w.av a) : UI w m (L2.upd H a o) := by
  refine ⟨fun b e => ?_, fun b hb => ?_⟩
  · obtain ⟨x, y, z, e', r⟩ := h.1 b e
    exact ⟨x, y, z, by rw [upd_ne (fun z => n (.inl (by rw [← z]; exact e)))]; exact e', r⟩
  · obtain ⟨o', e⟩ := h.2 b hb
    exact ⟨o', by rw [upd_ne (fun z => n (.inr (by rw [← z]; exact hb)))]; exact e⟩
/-- what an __init__ promises: the fields as data -/
abbrev DIn := List D → Nat → (List D → Nat → Prop) → Prop
def spInit (c : Nat) (sp : DIn) : Sp := fun vs H Q _ => ∃ (w : W) (Hb : Hp) (a dx : Addr) (ds : List D) (us : List V) (m : Nat) (Q' : List D → Nat → Prop), (Hb a = none ∧ ∀ b o, Hb b = some o → H b = some o) ∧ vs = .ref a :: us ∧ H a = some (.ins (Cl.c c).1 dx []) ∧ H dx = some (.own a) ∧ dx ≠ a ∧ ¬ w.av a ∧ ¬ w.av dx ∧ Hds w Hb us ds ∧ UI w m H ∧ sp ds m Q' ∧
  ∀ (fs : List D) (m' : Nat) (H' : Hp) (xs : List V), (∀ b o, b ≠ a → w.u ≠ some b → H b = some o → H' b = some o) → UI w m' H' → H' a = some (.ins (Cl.c c).1 dx ((Cl.c c).2.zip xs)) → Hds w H' xs fs → Q' fs m' → Q .non H'
section
variable {X : Cx} {e : Expr} {es : List Expr} {t : DA} {p pos : Pos} {k : Nat} {f : Addr} {fd : FuncData} {ps : List Str} {sp : DIn} {x : Str}
theorem de_make (c : Nat) (M : Mk X.K (Cl.c c).1 f) (F : FnOk X.prog X.w X.K X.mg X.base CX0 k f fd ps (spInit c sp)) (hr : Room (k + 1) X.A) (hm : X.mg x = some (.ref (Cl.c c).1)) (hb : Binds X.K fd ps []) (ha : Da X (e :: es) t) (hg : Gl X x := by rfl)
    (hdb : (x == ("__debug__" : Str)) = false := by decide) (he : starEach (e :: es) X.env = (false, eval e X.env) :: starEach es X.env := by rfl) (hpl : (backTo pos (starEach es X.env)).any (·.1) = false := by rfl) :
    De X (.Call (.Name x p) (e :: es) [] pos) (fun env m Q => t env m fun ds m1 => sp ds m1 fun fs m2 => Q (.obj c fs) m2) := by
  refine ⟨fun w σ H env m Q' Q sl hu h k => wp_of (pe_make M F hr hg hm hb .nil pass0 pa_self hdb he hpl) ?_⟩
  refine ha.run w σ H env m _ _ sl hu h fun vs ds m1 H1 f1 u1 h1 q1 a dx na nd ne => ?_
  rw [List.append_nil]
  have f2 : Fr w H1 (upd (upd H1 dx (.own a)) a (.ins (Cl.c c).1 dx [])) := fun b o _ e => by rw [upd_ne (ne_of_none e na), upd_ne (ne_of_none e nd)]; exact e
  have na2 : upd H1 dx (.own a) a = none := by rw [upd_ne (Ne.symm ne)]; exact na
  refine ⟨w, H1, a, dx, ds, vs, m1, _, ⟨na, fun b o e => by rw [upd_ne (ne_of_none e na), upd_ne (ne_of_none e nd)]; exact e⟩, rfl, upd_same, by rw [upd_ne ne, upd_same], ne, u1.new na, u1.new nd, h1, (u1.upd nd).upd na2, q1, fun fs m' H' xs kp u' hp hx q => ⟨rfl, ?_⟩⟩
  refine k _ _ m' H' (fun b o nb e => ?_) u' ?_ q
  · have e1 := f1 b o nb e
    exact kp b o (ne_of_none e1 na) nb (f2 b o nb e1)
  · rw [Hd.obj]
    refine ⟨a, dx, xs, rfl, u1.new na, u1.new nd, ?_, hp, hx⟩
    refine kp dx _ ne (fun z => u1.new nd (.inl z)) ?_
    rw [upd_ne ne, upd_same]
end
end TC
namespace TC
open PySem PySem.Spec PyProof.Rows L2
variable [Cl]
section
variable {X : Cx} {fe e : Expr} {es : List Expr} {te : DE} {t : DA} {p pos : Pos} {k : Nat} {g : Addr} {fd : FuncData} {ps : List Str} {sp : DSp}
/-- o(e, ..), o an object whose class has a __call__ -/
theorem de_callO (n : Nat) (hf : De X fe te) (c : StX.CallO X.K (Cl.c n).1 g) (F : FnOk X.prog X.w X.K X.mg X.base CX0 k g fd ps (spD sp)) (hr : Room k X.A) (hb : Binds X.K fd ps []) (ha : Da X (e :: es) t)
    (ht : eval (.Call fe (e :: es) [] pos) X.env = (do callWith pos (← eval fe X.env) [] (backTo pos (starEach (e :: es) X.env)) (backToKw pos (keywordEach [] X.env))) := by rfl)
    (he : starEach (e :: es) X.env = (false, eval e X.env) :: starEach es X.env := by rfl) (hpl : (backTo pos (starEach es X.env)).any (·.1) = false := by rfl) :
    De X (.Call fe (e :: es) [] pos) (fun env m Q => te env m fun d m1 => ∃ l, d = .obj n l ∧ t env m1 fun ds m2 => sp (.obj n l :: ds) m2 Q) := by
  refine ⟨fun w σ H env m Q' Q sl hu h k => wp_of (StX.pe_callO pe_self c (F.raw hb .nil) hr pass0 pa_self ht he hpl) ?_⟩
  refine hf.run w σ H env m _ _ sl hu h fun v d m1 H1 f1 u1 h1 q1 => ?_
  obtain ⟨l, rfl, q⟩ := q1
  have h2 := h1
  rw [Hd.obj] at h1
  obtain ⟨a, dx, vs, rfl, na, nd2, hd, hpp, hds⟩ := h1
  refine ⟨a, rfl, ?_⟩
  refine ha.run w σ H1 env m1 _ _ (sl.fr f1) u1 q fun us ds m2 H2 f2 u2 h3 q3 => ?_
  refine ⟨.inr ⟨dx, _, f2 _ _ (W.nu na) hpp⟩, ?_⟩
  show spD sp ((V.ref a :: us) ++ []) H2 Q E0
  rw [List.append_nil]
  exact ⟨w, .obj n l :: ds, m2, _, .cons (h2.fr f2) h3, u2, q3, k.from (f1.trans f2)⟩
end
end TC
namespace TC
open PySem PySem.Spec PyProof.Rows L2
variable [Cl]
/-! ### lists of a def's own, that it fills -/
theorem Hd.cell {w : W} {H : Hp} {v : V} {p : Addr} {l : List D} : Hd w H v (.cell p l) ↔ v = .ref p ∧ p ∈ w.ce ∧ w.u ≠ some p ∧ ∃ vs, H p = some (.lst vs) ∧ Hds w H vs l := by rw [Hd]
theorem flat_noc {d : D} (h : flatD d = true) : noc d = true := by cases d <;> first | rfl | simp [flatD] at h
theorem flat_nocL {l : List D} (h : l.all flatD = true) : nocL l = true := nocL_mem fun d hd => flat_noc (List.all_eq_true.mp h d hd)
/-- a world that knows fewer cells -/
structure Less (w0 w : W) : Prop where
  u : w.u = w0.u
  ex : ∀ a ∈ w0.ex, a ∈ w.ex
theorem Less.av {w0 w : W} (l : Less w0 w) {a : Addr} (n : ¬ w.av a) : ¬ w0.av a := fun z => n (z.elim (fun z => .inl (by rw [l.u]; exact z)) fun z => .inr (l.ex _ z))
mutual
theorem Hd.less {w0 w : W} (l : Less w0 w) {H : Hp} {v : V} : ∀ {d : D}, noc d = true → Hd w H v d → Hd w0 H v d
  | .non, _, h => by unfold Hd at h ⊢; exact h
  | .bl b, _, h => by unfold Hd at h ⊢; exact h
  | .int i, _, h => by unfold Hd at h ⊢; exact h
  | .str s, _, h => by unfold Hd at h ⊢; exact h
  | .lst r, c, h => by
    rw [noc] at c
    unfold Hd at h ⊢
    obtain ⟨a, vs, e, n, ha, hs⟩ := h
    exact ⟨a, vs, e, l.av n, ha, Hds.less l c hs⟩
  | .tup r, c, h => by
    rw [noc] at c
    unfold Hd at h ⊢
    obtain ⟨a, vs, e, ha, hs⟩ := h
    exact ⟨a, vs, e, ha.mono (fun o n _ => l.av n) (fun o _ e => e), Hds.less l c hs⟩
  | .obj k r, c, h => by
    rw [noc] at c
    unfold Hd at h ⊢
    obtain ⟨a, dx, vs, e, n, n2, hd, ha, hs⟩ := h
    exact ⟨a, dx, vs, e, l.av n, l.av n2, hd, ha, Hds.less l c hs⟩
  | .urn, _, h => by unfold Hd at h ⊢; rw [← l.u]; exact h
  | .cell p r, c, h => by rw [noc] at c; cases c
  | .dct r, c, h => by
    unfold Hd at h ⊢
    obtain ⟨a, e, n, ha⟩ := h
    exact ⟨a, e, l.av n, ha⟩
  | .tupz r, c, h => by
    unfold Hd at h ⊢
    obtain ⟨a, e, n, o, ha, hc⟩ := h
    exact ⟨a, e, l.av n, o, ha, hc⟩
theorem Hds.less {w0 w : W} (l : Less w0 w) {H : Hp} {vs : List V} : ∀ {ds : List D}, nocL ds = true → Hds w H vs ds → Hds w0 H vs ds
  | [], _, h => by unfold Hds at h ⊢; exact h
  | d :: ds, c, h => by
    rw [nocL, Bool.and_eq_true] at c
    unfold Hds at h ⊢
    obtain ⟨x, xs, e, h1, h2⟩ := h
    exact ⟨x, xs, e, Hd.less l c.1 h1, Hds.less l c.2 h2⟩
end
/-- a cell as a list again -/
def rel : D → D
  | .cell _ l => .lst l
  | d => d
/-- may be handed out: no cell in it, or a cell of this def's own -/
def Rlv (nw : Addr → Prop) (d : D) : Prop := noc d = true ∨ ∃ p l, d = .cell p l ∧ nw p ∧ nocL l = true
/-- what stands as it is, whatever is filled: no cell in it, or another cell that holds no cell -/
def Apart (p : Addr) (d : D) : Prop := noc d = true ∨ ∃ q l, d = .cell q l ∧ q ≠ p ∧ nocL l = true

/-- the judgement inside a def: w0, H0 what the def began with; nw the addresses that were free then -/
structure Mw (w0 : W) (H0 : Hp) (nw : Addr → Prop) (w : W) : Prop where
  l : Less w0 w
  new : ∀ p, nw p ↔ H0 p = none
  av : ∀ p, nw p → ¬ w0.av p
def Mn (w0 : W) (H0 : Hp) (w : W) (H : Hp) (nx : Env → Nat → Prop) (Q : L2.St → Hp → Prop) : Prop := ∀ σ' env' m' H', Fr w0 H0 H' → Frx w H H' → (∀ b, H' b = none → H b = none) → UI w m' H' → Sls w H' σ' env' → nx env' m' → Q σ' H'
def Mr (w0 : W) (H0 : Hp) (rt : D → Nat → Prop) (Q : VK) : Prop := ∀ v d m' H', Fr w0 H0 H' → UI w0 m' H' → Hd w0 H' v d → rt d m' → Q v H'
abbrev DM := (Addr → Prop) → DS
structure Dm1 (X : Cx) (st : Stmt) (t : DM) : Prop where
  run : ∀ w0 H0 w nw σ H env m nx rt (Dn : Ends), Mw w0 H0 nw w → Fr w0 H0 H → Sls w H σ env → UI w m H → t nw nx rt env m → Mn w0 H0 w H nx Dn.nx → Mr w0 H0 rt Dn.rt → wpS X st Dn σ H
structure Dm (X : Cx) (sts : List Stmt) (t : DM) : Prop where
  run : ∀ w0 H0 w nw σ H env m nx rt (Dn : Ends), Mw w0 H0 nw w → Fr w0 H0 H → Sls w H σ env → UI w m H → t nw nx rt env m → Mn w0 H0 w H nx Dn.nx → Mr w0 H0 rt Dn.rt → wpSs X sts Dn σ H
theorem Fr.free {w : W} {H H' : Hp} {m : Nat} (f : Fr w H H') (u : UI w m H') {b : Addr} (e : H' b = none) : H b = none := by
  cases q : H b with
  | none => rfl
  | some o =>
    by_cases h : w.u = some b
    · obtain ⟨x, y, z, e', _⟩ := u.1 b h
      rw [e] at e'; cases e'
    · rw [f b o h q] at e; cases e
theorem UI.lessW {w0 w : W} (l : Less w0 w) {m : Nat} {H : Hp} (h : UI w m H) : UI w0 m H := ⟨fun a e => h.1 a (by rw [l.u]; exact e), fun a ha => h.2 a (l.ex _ ha)⟩
theorem Fr.lessW {w0 w : W} (l : Less w0 w) {H H' : Hp} (f : Fr w H H') : Fr w0 H H' := fun b o n e => f b o (by rw [l.u]; exact n) e
theorem Mn.from {w0 w : W} {H0 H H1 : Hp} {nx : Env → Nat → Prop} {Q : L2.St → Hp → Prop} (c : Mn w0 H0 w H nx Q) (fx : Frx w H H1) (fr : ∀ b, H1 b = none → H b = none) : Mn w0 H0 w H1 nx Q :=
  fun σ' env' m' H' f fx2 fr2 => c σ' env' m' H' f (fx.trans fx2) fun b e => fr b (fr2 b e)
section
variable {X : Cx} {st : Stmt} {sts rest : List Stmt} {t u : DS} {tm um : DM} {pos : Pos}
def dmL (t : DS) : DM := fun _ nx rt => t nx fun d m => noc d = true ∧ rt d m
theorem dm_lift (h : Ds X st t) : Dm1 X st (dmL t) := by
  refine ⟨fun w0 H0 w nw σ H env m nx rt Dn W f sl hu q c r => ?_⟩
  refine h.run w σ H env m _ _ Dn sl hu q (fun σ1 env1 m1 H1 f1 u1 s1 q1 => ?_) fun v d m1 H1 f1 u1 h1 ⟨n1, q1⟩ => ?_
  · exact c _ _ _ _ (f.trans (f1.lessW W.l)) f1.x (fun b e => f1.free u1 e) u1 s1 q1
  · exact r _ _ _ _ (f.trans (f1.lessW W.l)) (u1.lessW W.l) (h1.less W.l n1) q1
def dmNext : DM := fun _ nx _ env m => nx env m
theorem dm_nil : Dm X [] dmNext := ⟨fun w0 H0 w nw σ H env m nx rt Dn W f sl hu q c r => wpSs_of pss_nil (c _ _ _ _ f (Frx.refl _ _) (fun _ e => e) hu sl q)⟩
def dmSeq (t u : DM) : DM := fun nw nx rt env m => t nw (fun env1 m1 => u nw nx rt env1 m1) rt env m
theorem dm_cons (h1 : Dm1 X st tm) (h2 : Dm X rest um) : Dm X (st :: rest) (dmSeq tm um) := by
  refine ⟨fun w0 H0 w nw σ H env m nx rt Dn W f sl hu q c r => wpSs_of (pss_cons ps_self pss_self) ?_⟩
  exact h1.run w0 H0 w nw σ H env m _ rt { Dn with nx := wpSs X rest Dn } W f sl hu q (fun σ1 env1 m1 H1 f1 fx1 fr1 u1 s1 q1 => h2.run w0 H0 w nw σ1 H1 env1 m1 nx rt Dn W f1 s1 u1 q1 (c.from fx1 fr1) r) r
theorem dm_one (h1 : Dm1 X st tm) : Dm X [st] tm := ⟨fun w0 H0 w nw σ H env m nx rt Dn W f sl hu q c r => wpSs_of (pss_one ps_self) (h1.run w0 H0 w nw σ H env m nx rt Dn W f sl hu q c r)⟩
def dmIf (c : DT) (t u : DM) : DM := fun nw nx rt env m => c env m fun b m1 => if b = true then t nw nx rt env m1 else u nw nx rt env m1
theorem dm_if {c : Expr} {tc : DT} {a b : List Stmt} (hc : Dt X c tc) (ha : Dm X a tm) (hb : Dm X b um) : Dm1 X (.If c a b pos) (dmIf tc tm um) := by
  refine ⟨fun w0 H0 w nw σ H env m nx rt Dn W f sl hu q k r => wpS_of (ps_if pt_self pss_self pss_self) ?_⟩
  refine hc.run w σ H env m _ _ sl hu q fun b m1 H1 f1 u1 q1 => ?_
  have k1 := k.from f1.x (fun b e => f1.free u1 e)
  have f2 := f.trans (f1.lessW W.l)
  cases b with
  | true => exact iteT (ha.run w0 H0 w nw σ H1 env m1 nx rt Dn W f2 (sl.fr f1) u1 (by simpa using q1) k1 r)
  | false => exact iteF (hb.run w0 H0 w nw σ H1 env m1 nx rt Dn W f2 (sl.fr f1) u1 (by simpa using q1) k1 r)
def dmFor (ti : DI) (dg : DG) (db : DM) : DM := fun nw nx rt env m => ti env m fun ds m1 => nocL ds = true ∧ ∃ P : Nat → Env → Nat → Prop, P 0 env m1 ∧
  (∀ i d env mm, ds[i]? = some d → P i env mm → dg d env fun env2 => db nw (fun env3 m3 => P (i + 1) env3 m3) rt env2 mm) ∧ ∀ env mm, P ds.length env mm → nx env mm
theorem dm_for {tg iter : Expr} {body : List Stmt} {is : List Nat} {ti : DI} {dg : DG} {db : DM} (hp : PassesOwn (model X.prog X.w) X.A X.env X.xe) (hc : X.calm = true) (hi : Di X tg iter ti) (hg : Dg X tg is dg) (hb : Dm X body db)
    (hs : ∀ x, foldedSetIterable iter X.env x = pure x := by intro _; rfl) : Dm1 X (.For tg iter body [] pos) (dmFor ti dg db) := by
  refine ⟨fun w0 H0 w nw σ H env m nx rt Dn W f sl hu q c r => wpS_of (ps_for hp hc pi_self pg_self pss_self hs) ?_⟩
  refine hi.run w σ H env m _ _ sl hu q fun J ds m1 H1 f1 u1 hw q1 => ?_
  obtain ⟨nc, P, p0, step, fin⟩ := q1
  obtain ⟨G, Y, wk, ww⟩ := hw.wk
  have c1 := c.from f1.x (fun b e => f1.free u1 e)
  refine for_it wk (fun i σ2 H2 => ∃ env2 mm, P i env2 mm ∧ Sls w H2 σ2 env2 ∧ UI w mm H2 ∧ Fr w0 H0 H2 ∧ Frx w H1 H2 ∧ ∀ b, H2 b = none → H1 b = none) ⟨env, m1, p0, sl.fr f1, u1, f.trans (f1.lessW W.l), Frx.refl _ _, fun _ e => e⟩ (fun i σ2 H2 hi2 ⟨env2, mm, hp2, s2, hu2, hf, hx, hd⟩ => (ww w (Gr.refl _ _) H2 (.inr ⟨nc, hx⟩)).1) (fun i x σ2 H2 H3 hlt ⟨env2, mm, hp2, s2, hu2, hf, hx, hd⟩ y => ?_) fun σ2 H2 ⟨env2, mm, hp2, s2, hu2, hf, hx, hd⟩ => ?_
  · obtain ⟨fy, uy, free, d, ed, hxd⟩ := (ww w (Gr.refl _ _) H2 (.inr ⟨nc, hx⟩)).2 i x H3 mm hlt hu2 y
    refine hg.run w σ2 H3 env2 mm x d _ _ (s2.fr fy) uy hxd (step i d env2 mm ed hp2) fun σ3 env3 s3 _ q3 => ?_
    exact hb.run w0 H0 w nw σ3 H3 env3 mm _ rt _ W (hf.trans (fy.lessW W.l)) s3 uy q3 (fun σ4 env4 m4 H4 f4 fx4 fr4 u4 s4 q4 => ⟨env4, m4, q4, s4, u4, f4, hx.trans (fy.x.trans fx4), fun b e => hd b (free b (fr4 b e))⟩) r
  · exact c1 _ _ _ _ hf hx hd hu2 s2 (fin env2 mm hp2)

/-! ### a cell is filled -/
def SepL (p : Addr) : Env → Prop
  | [] => True
  | none :: r => SepL p r
  | some d :: r => Apart p d ∧ SepL p r
theorem SepL.at {p : Addr} : ∀ {env : Env} {j : Nat} {d : D}, SepL p env → env[j]? = some (some d) → Apart p d
  | none :: r, 0, d, h, e => by simp at e
  | some x :: r, 0, d, h, e => by simp at e; rw [← e]; exact h.1
  | none :: r, j + 1, d, h, e => SepL.at (env := r) (j := j) h (by simpa using e)
  | some x :: r, j + 1, d, h, e => SepL.at (env := r) (j := j) h.2 (by simpa using e)
theorem cell_fill {w : W} {H : Hp} {σ : L2.St} {env : Env} {i : Nat} {p : Addr} {l l' : List D} {vs' : List V} (sl : Sls w H σ env) (e : env[i]? = some (some (.cell p l))) (sep : SepL p (env.set i none)) (nl : nocL l' = true) (h' : Hds w H vs' l') :
    Sls w (upd H p (.lst vs')) σ (env.set i (some (.cell p l'))) := by
  obtain ⟨v, ev, hv⟩ := sl.2 i _ e
  rw [Hd.cell] at hv
  obtain ⟨rfl, mc, nu, vs, hp, hvs⟩ := hv
  have fx : Frx w H (upd H p (.lst vs')) := fun b o n e => by rw [upd_ne (fun z => n (by rw [z]; exact .inr (w.sub _ mc)))]; exact e
  refine ⟨by rw [List.length_set]; exact sl.1, fun j d q => ?_⟩
  by_cases hij : i = j
  · subst hij
    have hl : i < env.length := (List.getElem?_eq_some_iff.mp e).1
    rw [List.getElem?_set_self hl] at q
    cases q
    exact ⟨_, ev, Hd.cell.mpr ⟨rfl, mc, nu, vs', upd_same, h'.frx fx nl⟩⟩
  · have q2 : (env.set i none)[j]? = some (some d) := by rw [List.getElem?_set_ne hij]; rw [List.getElem?_set_ne hij] at q; exact q
    rw [List.getElem?_set_ne hij] at q
    obtain ⟨u, e1, h1⟩ := sl.2 j d q
    refine ⟨u, e1, ?_⟩
    rcases sep.at q2 with n | ⟨r, k, rfl, ne, n⟩
    · exact h1.frx fx n
    · rw [Hd.cell] at h1 ⊢
      obtain ⟨rfl, mc2, nu2, us, hq, hus⟩ := h1
      exact ⟨rfl, mc2, nu2, us, by rw [upd_ne ne]; exact hq, hus.frx fx n⟩
/-- x.append(e) -/
def dmApp (i : Nat) (te : DE) : DM := fun nw nx _ env m => ∃ p l, env[i]? = some (some (.cell p l)) ∧ nw p ∧ te env m fun y m1 => noc y = true ∧ nocL l = true ∧ l.length < sizeLine ∧ SepL p (env.set i none) ∧ nx (env.set i (some (.cell p (l ++ [y])))) m1
theorem dm_app {i : Nat} {x : Str} {e : Expr} {te : DE} {px apos cpos : Pos} (hv : De X (.Name x px) (dVar i)) (he : De X e te)
    (hbase : attributeBase (.Name x px) "append" X.env (eval (.Name x px) X.env) = eval (.Name x px) X.env := by rfl)
    (hfew : ((backTo cpos (starEach [e] X.env)).all (fun x => !x.1) && (backToKw cpos (keywordEach [] X.env)).all (fun x => x.1.isSome)
      && decide (([e] : List Expr).length + ([] : List Keyword).length + (if ([] : List Keyword).isEmpty then 0 else 1) < 30)) = true := by rfl)
    (hline : (apos.endLine == cpos.line) = true := by rfl) (hs : starEach [e] X.env = (false, eval e X.env) :: starEach [] X.env := by rfl) (hplain : (backTo cpos (starEach [] X.env)).any (·.1) = false := by rfl)
    (hsw : swapsWith (.Call (.Attribute (.Name x px) "append" apos) [e] [] cpos) none pos.line X.env = pure false := by rfl) :
    Dm1 X (.Expr (.Call (.Attribute (.Name x px) "append" apos) [e] [] cpos) pos) (dmApp i te) := by
  refine ⟨fun w0 H0 w nw σ H env m nx rt Dn W f sl hu q c r => wpS_of (ps_expr (pe_bm PySem.F.plainAttrs_list PySem.F.slot_list_append PySem.F.type_list_append mt_append pe_self (pa_cons pe_self pa_nil hs) hbase hfew hline hs hplain) hsw) ?_⟩
  obtain ⟨p, l, e0, hnw, q⟩ := q
  refine hv.run w σ H env m (fun d mm => d = .cell p l ∧ mm = m) _ sl hu ⟨_, e0, rfl, rfl⟩ fun v d m1 H1 f1 u1 h1 q1 => ?_
  obtain ⟨rfl, rfl⟩ := q1
  rw [Hd.cell] at h1
  obtain ⟨rfl, mc, nu, vs, hp, hvs⟩ := h1
  refine ⟨.inl ⟨rfl, vs, SqL.of hp⟩, ?_⟩
  refine he.run w σ H1 env m1 _ _ (sl.fr f1) u1 q fun y dy m2 H2 f2 u2 h2 q2 => ?_
  obtain ⟨ny, nl, hlen, sep, q3⟩ := q2
  have fr := f1.trans f2
  have hp2 : H2 p = some (.lst vs) := f2 _ _ nu hp
  have hvs2 := hvs.fr f2
  refine ⟨p, vs, y, rfl, rfl, hp2, by rw [hvs.len]; exact hlen, ?_⟩
  have mex := w.sub _ mc
  refine c _ _ m2 _ (fun b o nb e => ?_) (fun b o nb e => ?_) (fun b e => ?_) (u2.put mex nu) (cell_fill (sl.fr fr) e0 sep (nocL_app nl (by rw [nocL, ny]; rfl)) (hvs2.app (.cons h2 .nil))) q3
  · rw [upd_ne (ne_of_none e ((W.new p).1 hnw))]
    exact (f.trans (fr.lessW W.l)) b o nb e
  · rw [upd_ne (fun z => nb (by rw [z]; exact .inr mex))]
    exact fr.x b o nb e
  · by_cases hb : b = p
    · rw [hb, upd_same] at e; cases e
    · rw [upd_ne hb] at e
      exact fr.free u2 e

/-! ### a def's own row of statements -/
def Me (w0 : W) (H0 : Hp) (nx : Env → Nat → Prop) (Q : L2.St → Hp → Prop) : Prop := ∀ σ' env' m' H', Fr w0 H0 H' → UI w0 m' H' → nx env' m' → Q σ' H'
structure DmT (X : Cx) (sts : List Stmt) (t : DM) : Prop where
  run : ∀ w0 H0 w nw σ H env m nx rt (Dn : Ends), Mw w0 H0 nw w → Fr w0 H0 H → Sls w H σ env → UI w m H → t nw nx rt env m → Me w0 H0 nx Dn.nx → Mr w0 H0 rt Dn.rt → wpSs X sts Dn σ H
theorem dmT_of (h : Dm X sts tm) : DmT X sts tm := ⟨fun w0 H0 w nw σ H env m nx rt Dn W f sl hu q c r => h.run w0 H0 w nw σ H env m nx rt Dn W f sl hu q (fun σ1 env1 m1 H1 f1 _ _ u1 _ q1 => c σ1 env1 m1 H1 f1 (u1.lessW W.l) q1) r⟩
theorem dmT_one (h : Dm1 X st tm) : DmT X [st] tm := dmT_of (dm_one h)
theorem dmT_cons (h1 : Dm1 X st tm) (h2 : DmT X rest um) : DmT X (st :: rest) (dmSeq tm um) := by
  refine ⟨fun w0 H0 w nw σ H env m nx rt Dn W f sl hu q c r => wpSs_of (pss_cons ps_self pss_self) ?_⟩
  exact h1.run w0 H0 w nw σ H env m _ rt { Dn with nx := wpSs X rest Dn } W f sl hu q (fun σ1 env1 m1 H1 f1 fx1 fr1 u1 s1 q1 => h2.run w0 H0 w nw σ1 H1 env1 m1 nx rt Dn W f1 s1 u1 q1 c r) r
/-- x = [..], filled later -/
def dmNew (i : Nat) (ta : DA) (u : DM) : DM := fun nw nx rt env m => ta env m fun ds m1 => nocL ds = true ∧ ds.length ≤ sizeLine ∧ ∀ p, nw p → (∀ (j : Nat) (q : Addr) (l : List D), env[j]? = some (some (.cell q l)) → q ≠ p) → u nw nx rt (env.set i (some (.cell p ds))) m1
theorem dmT_new {i : Nat} {x : Str} {es : List Expr} {ta : DA} {pos' lpos : Pos} (hN : X.N.Nodup) (ha : Da X es ta) (h : DmT X rest um) (hi : X.N[i]? = some x := by rfl) (hx : Loc X.env.scope x := by first | exact Or.inl rfl | exact Or.inr rfl) (hs : swapsWith (.List es lpos) (some (.Name x pos')) pos.line X.env = pure false := by rfl)
    (hf : X.fn x = true ∨ X.env.scope.names.lookup x = some .local := by first | exact .inl rfl | exact .inr rfl | assumption) : DmT X (.Assign [.Name x pos'] (.List es lpos) pos :: rest) (dmNew i ta um) := by
  refine ⟨fun w0 H0 w nw σ H env m nx rt Dn W f sl hu q c r => wpSs_of (pss_cons (ps_set hN hi hx (pe_lst pa_self) hs hf) pss_self) ?_⟩
  refine ha.run w σ H env m _ _ sl hu q fun vs ds m1 H1 f1 u1 h1 q1 => ?_
  obtain ⟨nc, hz, q1⟩ := q1
  refine ⟨by rw [h1.len]; exact hz, fun p hp => ?_⟩
  have fr0 := f.trans (f1.lessW W.l)
  have np : nw p := (W.new p).2 (fr0.free (u1.lessW W.l) hp)
  have nup : w.u ≠ some p := fun z => by
    obtain ⟨x, y, z, e', _⟩ := u1.1 p z
    rw [hp] at e'; cases e'
  have q2 := q1 p np fun j k l e => by
    obtain ⟨v, _, hv⟩ := (sl.fr f1).2 j _ e
    rw [Hd.cell] at hv
    obtain ⟨_, _, _, us, hk, _⟩ := hv
    exact ne_of_none hk hp
  let w2 : TC.W := ⟨w.u, p :: w.ex, p :: w.ce, fun a h => (List.mem_cons.mp h).elim (fun e => by rw [e]; exact List.mem_cons_self ..) fun e => List.mem_cons_of_mem _ (w.sub a e)⟩
  have gr : Gr w w2 H1 := ⟨rfl, fun a ha => List.mem_cons_of_mem _ ha, fun a ha => by
    rcases List.mem_cons.mp ha with rfl | ha
    · exact .inr hp
    · exact .inl ha, fun a ha => List.mem_cons_of_mem _ ha⟩
  have u2 : UI w2 m1 (upd H1 p (.lst vs)) := ⟨fun b e => (u1.upd (o := .lst vs) hp).1 b e, fun b hb => by
    rcases List.mem_cons.mp hb with rfl | hb
    · exact ⟨_, upd_same⟩
    · exact (u1.upd (o := .lst vs) hp).2 b hb⟩
  refine h.run w0 H0 w2 nw _ _ _ m1 nx rt Dn ⟨⟨W.l.u, fun a ha => List.mem_cons_of_mem _ (W.l.ex a ha)⟩, W.new, W.av⟩ (fr0.trans (Fr.upd hp)) ?_ u2 q2 c r
  refine ((((sl.fr f1).grow gr).fr (Fr.upd hp)).set i ?_)
  rw [Hd.cell]
  exact ⟨rfl, List.mem_cons_self .., nup, vs, upd_same, (h1.grow gr).fr (Fr.upd hp)⟩
/-- the cells are lists again -/
def RelE (nw : Addr → Prop) : Env → Prop
  | [] => True
  | none :: r => RelE nw r
  | some d :: r => Rlv nw d ∧ RelE nw r
def relE : Env → Env := List.map (Option.map rel)
theorem RelE.at {nw : Addr → Prop} : ∀ {env : Env} {j : Nat} {d : D}, RelE nw env → env[j]? = some (some d) → Rlv nw d
  | none :: r, 0, d, h, e => by simp at e
  | some x :: r, 0, d, h, e => by simp at e; rw [← e]; exact h.1
  | none :: r, j + 1, d, h, e => RelE.at (env := r) (j := j) h (by simpa using e)
  | some x :: r, j + 1, d, h, e => RelE.at (env := r) (j := j) h.2 (by simpa using e)
theorem rel_noc {d : D} (h : noc d = true) : rel d = d := by cases d <;> first | rfl | (rw [noc] at h; cases h)
def dmRel (t : DM) : DM := fun nw nx rt env m => RelE nw env ∧ t nw nx rt (relE env) m
theorem dmT_rel (h : DmT X sts tm) : DmT X sts (dmRel tm) := by
  refine ⟨fun w0 H0 w nw σ H env m nx rt Dn W f sl hu q c r => ?_⟩
  refine h.run w0 H0 w0 nw σ H (relE env) m nx rt Dn ⟨⟨rfl, fun _ h => h⟩, W.new, W.av⟩ f ⟨by rw [relE, List.length_map]; exact sl.1, fun j d e => ?_⟩ (hu.lessW W.l) q.2 c r
  rw [relE, List.getElem?_map] at e
  cases e2 : env[j]? with
  | none => rw [e2] at e; cases e
  | some o =>
    cases o with
    | none => rw [e2] at e; cases e
    | some d2 =>
      rw [e2] at e
      cases e
      obtain ⟨v, e1, h1⟩ := sl.2 j _ e2
      refine ⟨v, e1, ?_⟩
      rcases q.1.at e2 with n | ⟨p, l, rfl, hn, n⟩
      · rw [rel_noc n]
        exact h1.less W.l n
      · rw [Hd.cell] at h1
        obtain ⟨rfl, mc, nu, vs, hp, hvs⟩ := h1
        exact Hd.lst.mpr ⟨p, vs, rfl, W.av p hn, hp, hvs.less W.l n⟩
end
section
variable {P : Program} {w : World} {K : PySem.W.Frag} {mg : Str → Option Value} {base : Heap}
/-- a def that fills lists, by its body -/
theorem fnM {x qual : Str} {st : Stmt} {f : Addr} {fd : FuncData} {N ps : List Str} {k : Nat} {sp : DSp} (F : Fun K x qual st f fd) (S : FnScope N ps (defScope st)) (len : ∀ ds m Q, sp ds m Q → ds.length = ps.length)
    (hbody : ∀ (cdv : Value) (A : Around) (outer : List PySem.Env) (s : Shared) (H : Hp) (E : XK) (ds : List D) (m : Nat) (Q' : D → Nat → Prop), Room k (A.deeper (envOfC qual (defScope st) s.heap.objs.size f cdv)) → sp ds m Q' →
      ∃ t, DmT (cxOf CX0 P w K mg base N qual (defScope st) f cdv A outer s H E).nox (defBody st) t ∧ ∀ nw, t nw (fun _ m => Q' .non m) Q' (envAt N ds) m) : FnOk P w K mg base CX0 (k + 1) f fd ps (spD sp) := by
  refine F.ok S (fun vs H Q E h => ?_) (fun cdv A outer s H vs Q E hr h => ?_)
  · obtain ⟨wd, ds, m, Q', hds, hu, hsp, _⟩ := h
    rw [hds.len]
    exact len _ _ _ hsp
  · obtain ⟨wd, ds, m, Q', hds, hu, hsp, c⟩ := h
    obtain ⟨t, ht, q⟩ := hbody cdv A outer s H E ds m Q' hr hsp
    refine ⟨_, pss_self, ht.run wd H wd (fun p => H p = none) _ H _ m _ _ _ ⟨⟨rfl, fun _ h => h⟩, fun _ => Iff.rfl, fun p hp => hu.new hp⟩ (Fr.refl _ _) (Sls.start hds N) hu (q _) (fun σ' env' m' H' f1 u1 q1 => ?_) fun v d m' H' f1 u1 h1 q1 => c v d m' H' f1 u1 h1 q1⟩
    exact c _ _ _ _ f1 u1 (Hd.non.mpr rfl) q1
end
end TC
namespace TC
open PySem PySem.Spec PyProof.Rows L2
variable [Cl]
section
variable {X : Cx} {e o : Expr} {es : List Expr} {te to : DE} {t : DA} {p pos apos : Pos}
def dgTup3 (i j k : Nat) : DG := fun d env Q => ∃ a b c, d = .tup [a, b, c] ∧ Q (((env.set i (some a)).set j (some b)).set k (some c))
theorem dg_tup3 {i j k : Nat} {x y z : Str} {px py pz : Pos} {kk : Nat} (hc : X.calm = true) (hN : X.N.Nodup) (hi : X.N[i]? = some x := by rfl) (hj : X.N[j]? = some y := by rfl) (hk : X.N[k]? = some z := by rfl)
    (hx : Loc X.env.scope x := by first | exact Or.inl rfl | exact Or.inr rfl) (hy : Loc X.env.scope y := by first | exact Or.inl rfl | exact Or.inr rfl) (hz : Loc X.env.scope z := by first | exact Or.inl rfl | exact Or.inr rfl)
    (hf : X.fn x = true ∨ X.env.scope.names.lookup x = some .local := by first | exact .inl rfl | exact .inr rfl | assumption) (hf2 : X.fn y = true ∨ X.env.scope.names.lookup y = some .local := by first | exact .inl rfl | exact .inr rfl | assumption) (hf3 : X.fn z = true ∨ X.env.scope.names.lookup z = some .local := by first | exact .inl rfl | exact .inr rfl | assumption)
    (hs1 : (assignEach [.Name x px, .Name y py, .Name z pz] X.env).map (·.2) = assign (.Name x px) X.env :: (assignEach [.Name y py, .Name z pz] X.env).map (·.2) := by rfl) (hs2 : (assignEach [.Name y py, .Name z pz] X.env).map (·.2) = assign (.Name y py) X.env :: (assignEach [.Name z pz] X.env).map (·.2) := by rfl)
    (hs3 : (assignEach [.Name z pz] X.env).map (·.2) = assign (.Name z pz) X.env :: (assignEach [] X.env).map (·.2) := by rfl)
    (hn : (assignEach [.Name x px, .Name y py, .Name z pz] X.env).length = 3 := by rfl) (hst : (assignEach [.Name x px, .Name y py, .Name z pz] X.env).findIdx? (·.1) = none := by rfl) (hK : X.K = Cl.K := by rfl) :
    Dg X (.Tuple [.Name x px, .Name y py, .Name z pz] kk pos) [i, j, k] (dgTup3 i j k) := by
  refine ⟨fun w σ H env m v d Q' Q sl hu hd h c pins s u I r => (pg_tup hc (pgs_cons (pg_name hN hi hx hf) (pgs_cons (pg_name hN hj hy hf2) (pgs_cons (pg_name hN hk hz hf3) pgs_nil hs3) hs2) hs1) hn hst).run pins s σ H v u Q I r ?_⟩
  obtain ⟨a, b, d3, rfl, q⟩ := h
  rw [Hd.tup] at hd
  obtain ⟨p, vs, rfl, hp, hds⟩ := hd
  obtain ⟨v1, r1, rfl, h1, h2⟩ := hds.uncons
  obtain ⟨v2, r2, rfl, h3, h4⟩ := h2.uncons
  obtain ⟨v3, r3, rfl, h5, h6⟩ := h4.uncons
  cases h6.unnil
  refine ⟨p, _, rfl, hp.sq hK, rfl, v1, _, rfl, v2, _, rfl, v3, _, rfl, rfl, ?_⟩
  refine c _ _ (((sl.set i h1).set j h3).set k h5) (fun vs hvs => ?_) q
  rw [wipe_set (hvs k (by simp)), wipe_set (hvs j (by simp)), wipe_set (hvs i (by simp))]
def dPart (to te : DE) : DE := fun env m Q => to env m fun x m1 => ∃ a, x = .str a ∧ te env m1 fun y m2 => ∃ b, y = .str b ∧ (b.length == 0) = false ∧ a.length ≤ sizeLine ∧ Q (.tup [.str (Txt.partition a b).1, .str (Txt.partition a b).2.1, .str (Txt.partition a b).2.2]) m2
theorem de_partition (ho : De X o to) (he : De X e te) (hs : starEach [e] X.env = [(false, eval e X.env)] := by rfl) (hbase : attributeBase o "partition" X.env (eval o X.env) = eval o X.env := by rfl) (hline : (apos.endLine == pos.line) = true := by rfl) :
    De X (.Call (.Attribute o "partition" apos) [e] [] pos) (dPart to te) := by
  refine ⟨fun w σ H env m Q' Q sl hu h k => wp_of (pe_partition pe_self pe_self hs hbase hline) ?_⟩
  refine ho.run w σ H env m _ _ sl hu h fun v d m1 H1 f1 u1 h1 q1 => ?_
  obtain ⟨a, rfl, q1⟩ := q1
  rw [Hd.str] at h1; subst h1
  refine ⟨⟨a, rfl⟩, ?_⟩
  refine he.run w σ H1 env m1 _ _ (sl.fr f1) u1 q1 fun y dy m2 H2 f2 u2 h2 q2 => ?_
  obtain ⟨b, rfl, hb, ha, q⟩ := q2
  rw [Hd.str] at h2; subst h2
  refine ⟨a, b, rfl, rfl, hb, ha, fun p hp => ?_⟩
  exact k _ _ _ _ ((f1.trans f2).trans (Fr.upd hp)) (u2.upd hp) (new_tup u2 (.cons (Hd.str.mpr rfl) (.cons (Hd.str.mpr rfl) (.cons (Hd.str.mpr rfl) .nil))) hp) q
theorem hds_strs {w : W} {H : Hp} : ∀ l : List Str, Hds w H (l.map V.str) (l.map D.str)
  | [] => .nil
  | a :: l => .cons (Hd.str.mpr rfl) (hds_strs l)
def dSplit (to te : DE) : DE := fun env m Q => to env m fun x m1 => ∃ a, x = .str a ∧ te env m1 fun y m2 => ∃ b, y = .str b ∧ (b.length == 0) = false ∧ a.length + 2 ≤ sizeLine ∧ Q (.lst ((Txt.split a b).map D.str)) m2
theorem de_split (ho : De X o to) (he : De X e te) (hs : starEach [e] X.env = [(false, eval e X.env)] := by rfl) (hbase : attributeBase o "split" X.env (eval o X.env) = eval o X.env := by rfl) (hline : (apos.endLine == pos.line) = true := by rfl) :
    De X (.Call (.Attribute o "split" apos) [e] [] pos) (dSplit to te) := by
  refine ⟨fun w σ H env m Q' Q sl hu h k => wp_of (pe_split pe_self pe_self hs hbase hline) ?_⟩
  refine ho.run w σ H env m _ _ sl hu h fun v d m1 H1 f1 u1 h1 q1 => ?_
  obtain ⟨a, rfl, q1⟩ := q1
  rw [Hd.str] at h1; subst h1
  refine ⟨⟨a, rfl⟩, ?_⟩
  refine he.run w σ H1 env m1 _ _ (sl.fr f1) u1 q1 fun y dy m2 H2 f2 u2 h2 q2 => ?_
  obtain ⟨b, rfl, hb, ha, q⟩ := q2
  rw [Hd.str] at h2; subst h2
  refine ⟨a, b, rfl, rfl, hb, ha, fun p hp => ?_⟩
  exact k _ _ _ _ ((f1.trans f2).trans (Fr.upd hp)) (u2.upd hp) (new_lst u2 (hds_strs _) hp) q
/-- int of a number, a truth, a text -/
def intD (ds : List D) (m : Nat) (Q : D → Nat → Prop) : Prop := match ds with
  | [.int i] => Q (.int i) m
  | [.bl k] => Q (.int (if k then 1 else 0)) m
  | [.str z] => ∃ n, PySem.intText? z = some n ∧ z.length ≤ 640 ∧ Q (.int n) m
  | _ => False
theorem dc_intA : DCall X (.type "int") intD := by
  refine ⟨fun w H m vs ds Q' Q hu hs h c => ?_⟩
  unfold intD at h
  split at h
  · exact dc_int.run w H m vs _ Q' Q hu hs (.inl ⟨_, rfl, h⟩) c
  · exact dc_int.run w H m vs _ Q' Q hu hs (.inr ⟨_, rfl, h⟩) c
  · obtain ⟨n, hn, hl, q⟩ := h
    obtain ⟨v, xs, rfl, h1, h2⟩ := hs.uncons
    cases h2.unnil
    rw [Hd.str] at h1; subst h1
    exact wpC_of call_int_str ⟨_, n, rfl, hn, hl, c _ _ _ _ (Fr.refl _ _) hu (Hd.int.mpr rfl) q⟩
  · exact h.elim
end

/-! ### static methods -/
/-- C.m is a staticmethod: its record at p, its def at g -/
structure SMet (K : PySem.W.Frag) (C : Addr) (mc : Value) (m : Str) (p g : Addr) : Prop where
  at_ : PySem.W.findCls K (.ref C) mc m = some (.get (.builtin "staticmethod.__get__") (.ref p) .none (.ref C))
  rc : ∃ rest, PySem.W.recIn K p "staticmethod" = some (.ref g :: rest)
  kp : PySem.W.keepIn K (.ref g) = true
section
variable {X : Cx} {e : Expr} {es : List Expr} {t : DA} {p pos apos : Pos} {k : Nat} {C pA g : Addr} {mc : Value} {fd : FuncData} {ps : List Str} {sp : DSp} {x m : Str} {pl : Sem Bool}
theorem de_smeth (r : ClX.CRead X.K C mc) (c : SMet X.K C mc m pA g) (F : FnOk X.prog X.w X.K X.mg X.base CX0 k g fd ps (spD sp)) (hr : Room k X.A) (hm : X.mg x = some (.ref C)) (hb : Binds X.K fd ps []) (ha : Da X (e :: es) t) (hg : Gl X x := by rfl) (hdb : (x == ("__debug__" : Str)) = false := by decide)
    (he : starEach (e :: es) X.env = (false, eval e X.env) :: starEach es X.env := by rfl) (hpl : (backTo pos (starEach es X.env)).any (·.1) = false := by rfl)
    (ht : eval (.Call (.Attribute (.Name x p) m apos) (e :: es) [] pos) X.env = (do
      let ov ← eval (.Name x p) X.env
      standAt apos.atName
      let (f, first) ← holding [ov] (getMethod ov m pl)
      callWith pos f first (backTo pos (starEach (e :: es) X.env)) (backToKw pos (keywordEach [] X.env))) := by rfl) :
    De X (.Call (.Attribute (.Name x p) m apos) (e :: es) [] pos) (dCall sp t) := by
  refine ⟨fun w σ H env mm Q' Q sl hu h cc pins s I => ?_⟩
  obtain ⟨rest, hrc⟩ := c.rc
  refine PySem.W.methodCall_KW (pl := pl) (ld_glob I hg hm ?_ hdb) ht
  refine PySem.W.method_cls I.kIn r.ga (PySem.W.cls_bind I.kIn r.rd c.at_ (wpAny_call (PySem.W.sm_get (s := { s with toks := s.toks + 1 }) I.kIn hrc (PySem.W.handed_on rfl ?_))))
  refine PySem.W.callWith_K (h₀ := X.base) I.ok.mod.kin c.kp ?_ he hpl
  refine thn (ha.run w σ H env mm _ (fun vs H1 => spD sp vs H1 Q E0) sl hu h (fun vs ds m1 H1 f1 u1 h1 q1 => ?_) pos pins _ (I.tok _)) fun us s1 ⟨vs, H1, I1, r1, q1⟩ => ⟨I1.kIn, ?_⟩
  · exact ⟨w, ds, m1, _, h1, u1, q1, cc.from f1⟩
  · rw [← List.append_nil vs] at q1
    exact run_fn F hr hb .nil pass0 I1 r1 q1
end
end TC
namespace TC
open PySem PySem.Spec PyProof.Rows L2
variable [Cl]
/-! ### cells handed to a call that only reads them -/
mutual
/-- no list and no cell in it -/
def nolst : D → Bool
  | .lst _ => false
  | .cell _ _ => false
  | .tup l => nolstL l
  | .obj _ l => nolstL l
  | _ => true
def nolstL : List D → Bool
  | [] => true
  | d :: l => nolst d && nolstL l
end
/-- the addresses of the cells in the slots -/
def cellsE : Env → List Addr
  | [] => []
  | some (.cell p _) :: r => p :: cellsE r
  | _ :: r => cellsE r
def RelN : Env → Prop
  | [] => True
  | none :: r => RelN r
  | some (.cell _ l) :: r => nocL l = true ∧ RelN r
  | some d :: r => noc d = true ∧ RelN r
theorem cellsE_mem : ∀ {env : Env} {j : Nat} {p : Addr} {l : List D}, env[j]? = some (some (.cell p l)) → p ∈ cellsE env
  | [], j, p, l, e => by simp at e
  | none :: r, 0, p, l, e => by simp at e
  | some x :: r, 0, p, l, e => by simp at e; subst e; simp [cellsE]
  | none :: r, j + 1, p, l, e => by simpa [cellsE] using cellsE_mem (env := r) (j := j) (by simpa using e)
  | some x :: r, j + 1, p, l, e => by
    have h := cellsE_mem (env := r) (j := j) (by simpa using e)
    cases x <;> simp [cellsE, h]
theorem cellsE_of : ∀ {env : Env} {p : Addr}, p ∈ cellsE env → ∃ (j : Nat) (l : List D), env[j]? = some (some (.cell p l))
  | [], p, h => by simp [cellsE] at h
  | none :: r, p, h => by
    obtain ⟨j, l, e⟩ := cellsE_of (env := r) (by simpa [cellsE] using h)
    exact ⟨j + 1, l, by simpa using e⟩
  | some x :: r, p, h => by
    have tail : p ∈ cellsE r → ∃ (j : Nat) (l : List D), (some x :: r)[j]? = some (some (.cell p l)) := fun h => by
      obtain ⟨j, l, e⟩ := cellsE_of (env := r) h
      exact ⟨j + 1, l, by simpa using e⟩
    cases x with
    | cell q l =>
      rcases List.mem_cons.mp h with rfl | h
      · exact ⟨0, l, rfl⟩
      · exact tail h
    | _ => exact tail h
theorem RelN.at : ∀ {env : Env} {j : Nat} {d : D}, RelN env → env[j]? = some (some d) → noc d = true ∨ ∃ p l, d = .cell p l ∧ nocL l = true
  | none :: r, 0, d, h, e => by simp at e
  | some x :: r, 0, d, h, e => by
    simp at e
    subst e
    cases x with
    | cell q l => exact .inr ⟨q, l, rfl, h.1⟩
    | _ => exact .inl h.1
  | none :: r, j + 1, d, h, e => RelN.at (env := r) (j := j) h (by simpa using e)
  | some x :: r, j + 1, d, h, e => by
    have hr : RelN r := by cases x <;> exact h.2
    exact RelN.at (env := r) (j := j) hr (by simpa using e)
/-- the world without these cells -/
def W.cut (w : W) (ps : List Addr) : W := ⟨w.u, w.ex.filter (fun a => !decide (a ∈ ps)), w.ce.filter (fun a => !decide (a ∈ ps)), fun a h => by
  rw [List.mem_filter] at h ⊢
  exact ⟨w.sub a h.1, h.2⟩⟩
theorem W.cut_less (w : W) (ps : List Addr) : Less (w.cut ps) w := ⟨rfl, fun a h => (List.mem_filter.mp h).1⟩
mutual
/-- what holds without the cells holds with them, where no list is in it -/
theorem Hd.uncut {w : W} {ps : List Addr} {H : Hp} (hp : ∀ p ∈ ps, ∃ vs, H p = some (.lst vs)) {v : V} : ∀ {d : D}, nolst d = true → Hd (w.cut ps) H v d → Hd w H v d
  | .non, _, h => by unfold Hd at h ⊢; exact h
  | .bl b, _, h => by unfold Hd at h ⊢; exact h
  | .int i, _, h => by unfold Hd at h ⊢; exact h
  | .str s, _, h => by unfold Hd at h ⊢; exact h
  | .lst r, c, h => by rw [nolst] at c; cases c
  | .tup r, c, h => by
    rw [nolst] at c
    unfold Hd at h ⊢
    obtain ⟨a, vs, e, ha, hs⟩ := h
    refine ⟨a, vs, e, ?_, Hds.uncut hp c hs⟩
    rcases ha with ha | ⟨n, ha⟩
    · exact .inl ha
    refine .inr ⟨fun z => n ?_, ha⟩
    rcases z with z | z
    · exact .inl z
    · refine .inr (List.mem_filter.mpr ⟨z, ?_⟩)
      rw [Bool.not_eq_true', decide_eq_false_iff_not]
      intro m
      obtain ⟨us, e2⟩ := hp a m
      rcases ha with ha | ⟨o, ha⟩ <;> rw [ha] at e2 <;> cases e2
  | .obj k r, c, h => by
    rw [nolst] at c
    unfold Hd at h ⊢
    obtain ⟨a, dx, vs, e, n, n2, hd, ha, hs⟩ := h
    refine ⟨a, dx, vs, e, fun z => n ?_, fun z => n2 ?_, hd, ha, Hds.uncut hp c hs⟩
    · rcases z with z | z
      · exact .inl z
      · refine .inr (List.mem_filter.mpr ⟨z, ?_⟩)
        rw [Bool.not_eq_true', decide_eq_false_iff_not]
        intro m
        obtain ⟨us, e2⟩ := hp a m
        rw [ha] at e2; cases e2
    · rcases z with z | z
      · exact .inl z
      · refine .inr (List.mem_filter.mpr ⟨z, ?_⟩)
        rw [Bool.not_eq_true', decide_eq_false_iff_not]
        intro m
        obtain ⟨us, e2⟩ := hp dx m
        rw [hd] at e2; cases e2
  | .urn, _, h => by unfold Hd at h ⊢; exact h
  | .cell p r, c, h => by rw [nolst] at c; cases c
  | .dct r, _, h => by
    unfold Hd at h ⊢
    obtain ⟨a, e, n, ha⟩ := h
    refine ⟨a, e, fun z => n ?_, ha⟩
    rcases z with z | z
    · exact .inl z
    · refine .inr (List.mem_filter.mpr ⟨z, ?_⟩)
      rw [Bool.not_eq_true', decide_eq_false_iff_not]
      intro m
      obtain ⟨us, e2⟩ := hp a m
      rw [ha] at e2; cases e2
  | .tupz r, _, h => by
    unfold Hd at h ⊢
    obtain ⟨a, e, n, o, ha, hc⟩ := h
    refine ⟨a, e, fun z => n ?_, o, ha, hc⟩
    rcases z with z | z
    · exact .inl z
    · refine .inr (List.mem_filter.mpr ⟨z, ?_⟩)
      rw [Bool.not_eq_true', decide_eq_false_iff_not]
      intro m
      obtain ⟨us, e2⟩ := hp a m
      rw [ha] at e2; cases e2
theorem Hds.uncut {w : W} {ps : List Addr} {H : Hp} (hp : ∀ p ∈ ps, ∃ vs, H p = some (.lst vs)) {vs : List V} : ∀ {ds : List D}, nolstL ds = true → Hds (w.cut ps) H vs ds → Hds w H vs ds
  | [], _, h => by unfold Hds at h ⊢; exact h
  | d :: ds, c, h => by
    rw [nolstL, Bool.and_eq_true] at c
    unfold Hds at h ⊢
    obtain ⟨x, xs, e, h1, h2⟩ := h
    exact ⟨x, xs, e, Hd.uncut hp c.1 h1, Hds.uncut hp c.2 h2⟩
end
/-! ### looks at slots that compute -/
def relNB : Env → Bool
  | [] => true
  | none :: r => relNB r
  | some (.cell _ l) :: r => nocL l && relNB r
  | some d :: r => noc d && relNB r
theorem relNB_ok : ∀ {env : Env}, relNB env = true → RelN env
  | [], _ => trivial
  | none :: r, h => relNB_ok (env := r) h
  | some d :: r, h => by
    cases d with
    | cell p l =>
      rw [relNB, Bool.and_eq_true] at h
      exact ⟨h.1, relNB_ok h.2⟩
    | _ =>
      simp only [relNB, Bool.and_eq_true] at h
      exact ⟨h.1, relNB_ok h.2⟩
theorem relE_of {nw : Addr → Prop} : ∀ {env : Env}, relNB env = true → (∀ q ∈ cellsE env, nw q) → RelE nw env
  | [], _, _ => trivial
  | none :: r, h, c => relE_of (env := r) h c
  | some d :: r, h, c => by
    cases d with
    | cell p l =>
      rw [relNB, Bool.and_eq_true] at h
      exact ⟨.inr ⟨p, l, rfl, c p (List.mem_cons_self ..), h.1⟩, relE_of h.2 fun q hq => c q (List.mem_cons_of_mem _ hq)⟩
    | _ =>
      simp only [relNB, Bool.and_eq_true] at h
      exact ⟨.inl h.1, relE_of h.2 c⟩
theorem sep_of {p : Addr} : ∀ {env : Env}, relNB env = true → (∀ q ∈ cellsE env, q ≠ p) → SepL p env
  | [], _, _ => trivial
  | none :: r, h, c => sep_of (env := r) h c
  | some d :: r, h, c => by
    cases d with
    | cell q l =>
      rw [relNB, Bool.and_eq_true] at h
      exact ⟨.inr ⟨q, l, rfl, c q (List.mem_cons_self ..), h.1⟩, sep_of h.2 fun q hq => c q (List.mem_cons_of_mem _ hq)⟩
    | _ =>
      simp only [relNB, Bool.and_eq_true] at h
      exact ⟨.inl h.1, sep_of h.2 c⟩
section
variable {X : Cx} {e : Expr} {te : DE}
/-- the cells are lists for e; what it gives has no list in it -/
def dRel (te : DE) : DE := fun env m Q => relNB env = true ∧ te (relE env) m fun d m1 => nolst d = true ∧ Q d m1
theorem de_rel (h : De X e te) : De X e (dRel te) := by
  refine ⟨fun w σ H env m Q' Q sl hu ⟨rn, q⟩ c => ?_⟩
  have rn := relNB_ok rn
  have hp : ∀ p ∈ cellsE env, (∃ vs, H p = some (.lst vs)) ∧ w.u ≠ some p := fun p hp => by
    obtain ⟨j, l, ej⟩ := cellsE_of hp
    obtain ⟨v, _, hv⟩ := sl.2 j _ ej
    rw [Hd.cell] at hv
    obtain ⟨_, _, nu, vs, hv, _⟩ := hv
    exact ⟨⟨vs, hv⟩, nu⟩
  have ls := w.cut_less (cellsE env)
  refine h.run (w.cut (cellsE env)) σ H (relE env) m _ _ ⟨by rw [relE, List.length_map]; exact sl.1, fun j d ej => ?_⟩ (hu.lessW ls) q fun v d m' H' f' u' h' ⟨nl, q'⟩ => ?_
  · rw [relE, List.getElem?_map] at ej
    cases e2 : env[j]? with
    | none => rw [e2] at ej; cases ej
    | some o =>
      cases o with
      | none => rw [e2] at ej; cases ej
      | some d2 =>
        rw [e2] at ej
        cases ej
        obtain ⟨v, e1, h1⟩ := sl.2 j _ e2
        refine ⟨v, e1, ?_⟩
        rcases rn.at e2 with n | ⟨p, l, rfl, n⟩
        · rw [rel_noc n]
          exact h1.less ls n
        · rw [Hd.cell] at h1
          obtain ⟨rfl, mc, nu, vs, hv, hvs⟩ := h1
          refine Hd.lst.mpr ⟨p, vs, rfl, fun z => ?_, hv, hvs.less ls n⟩
          rcases z with z | z
          · exact nu z
          · have := (List.mem_filter.mp z).2
            rw [Bool.not_eq_true', decide_eq_false_iff_not] at this
            exact this (cellsE_mem e2)
  · have fr : Fr w H H' := fun b o n e => f' b o n e
    refine c v d m' H' fr ⟨fun a e => u'.1 a e, fun a ha => ?_⟩ (h'.uncut (fun p m => ?_) nl) q'
    · obtain ⟨o, e⟩ := hu.2 a ha
      by_cases hm : w.u = some a
      · obtain ⟨x, y, z, e', _⟩ := u'.1 a hm
        exact ⟨_, e'⟩
      · exact ⟨o, fr a o hm e⟩
    · obtain ⟨⟨vs, e⟩, nu⟩ := hp p m
      exact ⟨vs, fr p _ nu e⟩
end
/-! ### an item of a cell is set -/
theorem Hds.setAt {w : W} {H : Hp} : ∀ {ds : List D} {vs : List V} (n : Nat) {v : V} {d : D}, Hds w H vs ds → Hd w H v d → Hds w H (vs.set n v) (ds.set n d)
  | [], vs, n, v, d, h, g => by rw [h.unnil]; exact .nil
  | e :: ds, vs, 0, v, d, h, g => by
    obtain ⟨x, xs, rfl, h1, h2⟩ := h.uncons
    exact .cons g h2
  | e :: ds, vs, n + 1, v, d, h, g => by
    obtain ⟨x, xs, rfl, h1, h2⟩ := h.uncons
    exact .cons h1 (h2.setAt n g)
theorem nocL_set {l : List D} {n : Nat} {d : D} (h : nocL l = true) (g : noc d = true) : nocL (l.set n d) = true := nocL_mem fun e he => by
  rcases List.mem_or_eq_of_mem_set he with h1 | h1
  · exact nocL_of h e h1
  · rw [h1]; exact g
/-- x[i] = e -/
def dmSetI (i : Nat) (te ti : DE) : DM := fun nw nx _ env m => te env m fun y m1 => ∃ p l, env[i]? = some (some (.cell p l)) ∧ nw p ∧ ti env m1 fun k m2 => ∃ z j, k = .int z ∧ ixN l.length z = some j ∧ noc y = true ∧ nocL l = true ∧ SepL p (env.set i none) ∧ nx (env.set i (some (.cell p (l.set j y)))) m2
theorem dm_seti {X : Cx} {i : Nat} {x : Str} {e ix : Expr} {te ti : DE} {px spos pos : Pos} (hv : De X (.Name x px) (dVar i)) (he : De X e te) (hi : De X ix ti)
    (ha : ∀ v, assign (.Subscript (.Name x px) ix spos) X.env v = (do
      let ov ← holding [v] (eval (.Name x px) X.env)
      let iv ← holding [v, ov] (eval ix X.env)
      standAt spos
      holding [v, ov, iv] (setItem ov iv v)
      release [v, ov, iv] []) := by intro _; rfl)
    (hs : swapsWithSole [.Subscript (.Name x px) ix spos] e pos.line X.env = pure false := by rfl) (hw : swappedStores [.Subscript (.Name x px) ix spos] e X.env = pure none := by rfl)
    (h1 : (assignEach [.Subscript (.Name x px) ix spos] X.env).map (·.2) = [assign (.Subscript (.Name x px) ix spos) X.env] := by rfl) :
    Dm1 X (.Assign [.Subscript (.Name x px) ix spos] e pos) (dmSetI i te ti) := by
  refine ⟨fun w0 H0 w nw σ H env m nx rt Dn W f sl hu q c r => wpS_of (ps_asg pe_self (pg_sub pe_self pe_self set_list ha) hs hw h1) ?_⟩
  refine he.run w σ H env m _ _ sl hu q fun y dy m1 H1 f1 u1 h1 q1 => ?_
  obtain ⟨p, l, e0, hnw, q1⟩ := q1
  refine hv.run w σ H1 env m1 (fun d mm => d = .cell p l ∧ mm = m1) _ (sl.fr f1) u1 ⟨_, e0, rfl, rfl⟩ fun v d m2 H2 f2 u2 h2 q2 => ?_
  obtain ⟨rfl, rfl⟩ := q2
  rw [Hd.cell] at h2
  obtain ⟨rfl, mc, nu, vs, hp, hvs⟩ := h2
  refine hi.run w σ H2 env m2 _ _ (sl.fr (f1.trans f2)) u2 q1 fun k dk m3 H3 f3 u3 h3 q3 => ?_
  obtain ⟨z, j, rfl, hj, ny, nl, sep, q3⟩ := q3
  rw [Hd.int] at h3
  subst h3
  have fr := f1.trans (f2.trans f3)
  have hp3 : H3 p = some (.lst vs) := f3 _ _ nu hp
  have hvs3 := hvs.fr f3
  refine ⟨p, vs, z, j, rfl, rfl, hp3, by rw [hvs.len]; exact hj, ?_⟩
  have mex := w.sub _ mc
  refine c _ _ m3 _ (fun b o nb e => ?_) (fun b o nb e => ?_) (fun b e => ?_) (u3.put mex nu) (cell_fill (sl.fr fr) e0 sep (nocL_set nl ny) (hvs3.setAt j (h1.fr (f2.trans f3)))) q3
  · rw [upd_ne (ne_of_none e ((W.new p).1 hnw))]
    exact (f.trans (fr.lessW W.l)) b o nb e
  · rw [upd_ne (fun z => nb (by rw [z]; exact .inr mex))]
    exact fr.x b o nb e
  · by_cases hb : b = p
    · rw [hb, upd_same] at e; cases e
    · rw [upd_ne hb] at e
      exact fr.free u3 e
/-! ### o(k = v), o an object whose class has a __call__ -/
theorem callO_withK {M : Model} {A : Around} {E : Value → Shared → Prop} {s : Shared} {a : Addr} {pos : Pos} {env : PySem.Env} {kws : List Keyword} {Q : Value → Shared → Prop}
    (hall : (backToKw pos (keywordEach kws env)).all (·.1.isSome) = true)
    (h : wpAny M A (evalAll ((backToKw pos (keywordEach kws env)).map (·.2))) (fun ks s₁ => (∃ C ox od, PySem.W.InstAt s₁.heap a ox C od ∧ ox.data = .plain) ∧ wpAny M A (call (.ref a) ([] ++ []) (((backToKw pos (keywordEach kws env)).filterMap (·.1)).zip ks)) Q E s₁) E s)
    (hpl : ((backTo pos (starEach [] env)).any (·.1) || (backToKw pos (keywordEach kws env)).any (·.1.isNone)) = false) :
    wpAny M A (callWith pos (.ref a) [] (backTo pos (starEach [] env)) (backToKw pos (keywordEach kws env))) Q E s := by
  unfold callWith
  refine wpAny_bind (wpAny_holding (wpAny_mono (evalArgs_kw2_nil (Q := fun z s₁ => (∃ C ox od, PySem.W.InstAt s₁.heap a ox C od ∧ ox.data = .plain) ∧ wpAny M A (call (.ref a) ([] ++ z.pos) z.kw) Q E s₁) hall h) (fun z s₁ h₁ => wpAny_bind (wpAny_standAt ?_)) fun _ _ y => y))
  obtain ⟨⟨C, ox, od, J, hd⟩, h₁⟩ := h₁
  have L := PySem.W.kco_keeper (M := M) J hd
  simp only [hpl]
  refine wpAny_bind (L.here ?_)
  have tail : ∀ {t : Sem Value}, wpAny M A t Q E s₁ → wpAny M A (t >>= fun r => holding [r] point >>= fun _ => pure r) Q E s₁ :=
    fun ht => wpAny_bind (wpAny_mono ht (fun r s₂ hr => wpAny_bind (wpAny_holding (wpAny_point (wpAny_pure hr)))) fun _ _ y => y)
  exact tail (wpAny_operateT h₁)
section
variable {X : Cx} {fe : Expr} {kws : List Keyword} {te : DE} {tk : DA} {pos : Pos} {k : Nat} {g : Addr} {fd : FuncData} {ps ks : List Str} {sp : DSp} {gB : List Value → List Value → List Value} {gV : List V → List V → List V} {gD : D → List D → List D}
theorem de_callOK (n : Nat) (hf : De X fe te) (c : StX.CallO X.K (Cl.c n).1 g) (F : FnOk X.prog X.w X.K X.mg X.base CX0 k g fd ps (spD sp)) (hr : Room k X.A) (hb : KBn X.K fd ps 1 ks gB gV)
    (hgD : ∀ w H v d vs ds, vs.length = ks.length → Hd w H v d → Hds w H vs ds → Hds w H (gV [v] vs) (gD d ds)) (hkw : Dk X kws tk)
    (ht : eval (.Call fe [] kws pos) X.env = (do callWith pos (← eval fe X.env) [] (backTo pos (starEach [] X.env)) (backToKw pos (keywordEach kws X.env))) := by rfl)
    (hall : (backToKw pos (keywordEach kws X.env)).all (·.1.isSome) = true := by rfl) (hks : (backToKw pos (keywordEach kws X.env)).filterMap (·.1) = ks := by rfl)
    (hpl : ((backTo pos (starEach [] X.env)).any (·.1) || (backToKw pos (keywordEach kws X.env)).any (·.1.isNone)) = false := by rfl) :
    De X (.Call fe [] kws pos) (fun env m Q => te env m fun d m1 => ∃ l, d = .obj n l ∧ tk env m1 fun ds m2 => ds.length = ks.length ∧ sp (gD (.obj n l) ds) m2 Q) := by
  refine ⟨fun w σ H env m Q' Q sl hu h kk pins s I => ?_⟩
  rw [ht]
  refine wpAny_bind (thn (hf.run w σ H env m _ (fun v H1 => ∃ (a dx : Addr) (vs : List V) (l : List D) (m1 : Nat), v = .ref a ∧ H1 a = some (.ins (Cl.c n).1 dx ((Cl.c n).2.zip vs)) ∧ Hd w H1 (.ref a) (.obj n l) ∧ Fr w H H1 ∧ UI w m1 H1 ∧ ¬ w.av a ∧ tk env m1 fun ds m2 => ds.length = ks.length ∧ sp (gD (.obj n l) ds) m2 Q') sl hu h (fun v d m1 H1 f1 u1 h1 q1 => ?_) pins s I) fun u s1 ⟨y, H1, I1, ry, a, dx, vs, l, m1, ey, hpp, ho, f1, u1, na, q1⟩ => ?_)
  · obtain ⟨l, rfl, q⟩ := q1
    have h2 := h1
    rw [Hd.obj] at h1
    obtain ⟨a, dx, vs, rfl, na, nd2, hd, hpp, hds⟩ := h1
    exact ⟨a, dx, vs, l, m1, rfl, hpp, h2, f1, u1, na, q⟩
  · subst ey
    obtain rfl : u = Value.ref a := ry
    refine callO_withK hall (thn (hkw.run w σ H1 env m1 _ (fun zs H2 => zs.length = ks.length ∧ (∃ vs', H2 a = some (.ins (Cl.c n).1 dx ((Cl.c n).2.zip vs'))) ∧ spD sp (gV [.ref a] zs) H2 Q E0) (sl.fr f1) u1 q1 (fun us ds m2 H2 f2 u2 h3 q3 => ?_) pos pins s1 I1) fun ws s2 ⟨zs, H2, I2, rz, l2, hi, q2⟩ => ?_) hpl
    · have hl : us.length = ks.length := h3.len.trans q3.1
      exact ⟨hl, ⟨vs, f2 _ _ (W.nu na) hpp⟩, w, gD (.obj n l) ds, m2, _, hgD w H2 _ _ us ds hl (ho.fr f2) h3, u2, q3.2, kk.from (f1.trans f2)⟩
    · obtain ⟨vs', hi⟩ := hi
      obtain ⟨ox, od, J, hd⟩ := StX.insC_at (C := (Cl.c n).1) I2 (.inr ⟨_, _, hi⟩)
      refine ⟨⟨_, ox, od, J, hd⟩, wpAny_call (PySem.W.kco_code I2.kIn J hd c.at_ c.fn c.fi ?_)⟩
      rw [hks]
      have r1 : Vals [V.ref a] [Value.ref a] := .cons rfl .nil
      have r2 := hb.rel r1 rz
      refine codeAny_mono (F.run X.A X.stack s2 H2 ⟨[.ref a], ks.zip ws⟩ (gB [.ref a] ws) (gV [.ref a] zs) Q E0 hr I2.env0 (hb.to s2 [.ref a] ws I2.kIn rfl (rz.length.symm.trans l2)) r2 q2) fun r s' hq => ?_
      cases r with
      | error e => exact (pass0 (X := X) pins σ H2 s2 e s' I2 hq)
      | ok fl =>
        cases fl with
        | ret u => exact I2.after hq
        | next => exact False.elim hq
        | brk => exact False.elim hq
        | cont => exact False.elim hq
end

/-! ### a comprehension, item by item -/
def runLc (dg : DG) (dt : DT) (de : DE) (env : Env) : List D → List D → Nat → (List D → Nat → Prop) → Prop
  | [], acc, m, Q => Q acc m
  | d :: ds, acc, m, Q => dg d env fun e => dt e m fun b m2 => if b = true then de e m2 fun y m3 => runLc dg dt de env ds (acc ++ [y]) m3 Q else runLc dg dt de env ds acc m2 Q
theorem lc_unroll {dg : DG} {dt : DT} {de : DE} {env : Env} {ds : List D} {m : Nat} {Q : List D → Nat → Prop} (h : runLc dg dt de env ds [] m Q) : lcIn dg dt de env ds m Q := by
  refine ⟨fun i acc mm => runLc dg dt de env (ds.drop i) acc mm Q, h, fun i d acc mm hd hp => ?_, fun acc mm hp => ?_⟩
  · obtain ⟨hi, e⟩ := List.getElem?_eq_some_iff.mp hd
    dsimp only at hp
    rw [List.drop_eq_getElem_cons hi, e] at hp
    exact hp
  · dsimp only at hp
    rw [List.drop_length] at hp
    exact hp
/-- the rest of a for, item by item -/
def runFor (dg : DG) (db : DS) (nx : Env → Nat → Prop) (rt : D → Nat → Prop) : List D → Env → Nat → Prop
  | [], env, m => nx env m
  | d :: ds, env, m => dg d env fun env2 => db (fun env3 m3 => runFor dg db nx rt ds env3 m3) rt env2 m
theorem for_unroll {dg : DG} {db : DS} {nx : Env → Nat → Prop} {rt : D → Nat → Prop} {ds : List D} {env : Env} {m : Nat} (h : runFor dg db nx rt ds env m) : forIn1 dg db nx rt ds env m := by
  refine ⟨fun i env mm => runFor dg db nx rt (ds.drop i) env mm, h, fun i d acc mm hd hp => ?_, fun acc mm hp => ?_⟩
  · obtain ⟨hi, e⟩ := List.getElem?_eq_some_iff.mp hd
    dsimp only at hp
    rw [List.drop_eq_getElem_cons hi, e] at hp
    exact hp
  · dsimp only at hp
    rw [List.drop_length] at hp
    exact hp
section
variable {K : PySem.W.Frag}
def apB (us ws : List Value) : List Value := us ++ ws
def apV (us ws : List V) : List V := us ++ ws
/-- f(a, k = b) -/
theorem kb_last {x qual : Str} {st : Stmt} {f : Addr} {fd : FuncData} {p1 p2 : Str} (F : Fun K x qual st f fd) (h : ∀ (kV doc pm : Value) (an : Option Addr) (cdv ct : Value) (a b : Value), bindArgs (PySem.W.fnOf x qual (defArgs st) (defBody st) (defScope st) .none kV doc pm an cdv ct) ⟨[a], [(p2, b)]⟩ = pure [(p1, a), (p2, b)]) : KBn K fd [p1, p2] 1 [p2] apB apV := by
  obtain ⟨oc, od, kV, doc, pm, an, cdv, ct, osl, rfl, lk, hcd⟩ := F.ex
  refine ⟨fun s us ws X l1 l2 => ?_, fun {vs us zs ws} r1 r2 => ?_⟩
  · match us, ws, l1, l2 with
    | [a], [b], _, _ => exact BindsTo.of_eq (h kV doc pm an cdv ct a b)
  · exact r1.append r2
end
end TC
namespace TC
open PySem PySem.Spec PyProof.Rows L2
variable [Cl]
/-! ### isinstance(o, C), o an object of an own class -/
structure IsF (K : PySem.W.Frag) (n j : Nat) (b : Bool) : Prop where
  cl : Cls K (Cl.c n).1
  ha : PySem.W.findIn K (.ref (Cl.c n).1) "__class__" = some (some (.builtin "object.__class__"))
  hn : PySem.W.specialIn K (.builtin "object.__class__") "__get__" = some (some (.builtin "getset_descriptor.__get__"))
  htk : PySem.W.takesIn K (.builtin "object.__class__") = some true
  hm : PySem.W.mroIn K (Cl.c n).1 (.type "object") = some true
  ki : PySem.W.kitOne K (.ref (Cl.c n).1) (.ref (Cl.c j).1) = some b
theorem kit_self {K : PySem.W.Frag} {C : Addr} : PySem.W.kitOne K (.ref C) (.ref C) = some true := by
  unfold PySem.W.kitOne
  rw [if_pos (beq_self_eq_true _)]
theorem kit_own {K : PySem.W.Frag} {C E : Addr} {b : Bool} (ne : (Value.ref C == Value.ref E) = false) (hd : PySem.W.hasDictIn K E = true) (h2 : PySem.W.typeIn K (.ref E) = some (.type "type")) (h3 : PySem.W.mroIn K C (.ref E) = some b) : PySem.W.kitOne K (.ref C) (.ref E) = some b := by
  obtain ⟨cd, hc, _⟩ := PySem.W.any_some hd
  unfold PySem.W.kitOne
  rw [if_neg (by rw [ne]; exact Bool.false_ne_true)]
  unfold PySem.W.kitCls
  simp only [hc, h2, Option.isSome_some, beq_self_eq_true, Bool.and_self, if_true]
  exact h3
section
variable {X : Cx} {e : Expr} {te : DE} {A : Str} {p p1 pos : Pos}
def dIsO (K : PySem.W.Frag) (j : Nat) (te : DE) : DE := fun env m Q => te env m fun d m1 => ∃ n l b, d = .obj n l ∧ IsF K n j b ∧ Q (.bl b) m1
theorem de_isiO (j : Nat) (hm : X.mg "isinstance" = none) (ha : De X e te) (hA : X.mg A = some (.ref (Cl.c j).1))
    (hgA : Gl X A := by rfl) (hg : Gl X "isinstance" := by rfl) (hdA : (A == ("__debug__" : Str)) = false := by decide)
    (hs1 : starEach [e, .Name A p1] X.env = (false, eval e X.env) :: starEach [.Name A p1] X.env := by rfl) (hs2 : starEach [.Name A p1] X.env = (false, eval (.Name A p1) X.env) :: starEach [] X.env := by rfl)
    (hpl : (backTo pos (starEach [.Name A p1] X.env)).any (·.1) = false := by rfl) :
    De X (.Call (.Name "isinstance" p) [e, .Name A p1] [] pos) (dIsO X.K j te) := by
  have pA : PE X (.Name A p1) (fun σ H Q => Q (.ref (Cl.c j).1) H) := ⟨fun pins s σ H Q I h => ld_glob I hgA hA ⟨.ref _, H, I, rfl, h⟩ hdA⟩
  refine ⟨fun w σ H env m Q' Q sl hu h c => wp_of (pe_callB call_isi hg hm (by decide +kernel) (pa_cons pe_self (pa_cons pA pa_nil hs2) hs1) (by decide) (by decide) hs1 hpl) ?_⟩
  refine ha.run w σ H env m _ _ sl hu h fun v d m1 H1 f1 u1 h1 q1 => ?_
  obtain ⟨n, l, b, rfl, F, q⟩ := q1
  unfold Hd at h1
  obtain ⟨a, dx, vs, rfl, na, nd, hd, hp, hds⟩ := h1
  exact ⟨.ref a, .ref (Cl.c j).1, .ref (Cl.c n).1, .ref (Cl.c j).1, b, rfl, .own _, .base (.ins hp F.cl F.ha F.hn F.htk F.hm), F.ki, c _ _ _ _ f1 u1 (Hd.bl.mpr rfl) q⟩
end
/-! ### an operator of an own class, both of the same class -/
structure OpO (K : PySem.W.Frag) (C : Addr) (m : Str) (g : Addr) : Prop where
  at_ : PySem.W.findIn K (.ref C) m = some (some (.ref g))
  fn : PySem.W.isFn K (.ref g) = true
  sf : PySem.W.selfFirst K C = true
def dOwn (n : Nat) (sp : DSp) : D2 := fun x y m Q => ∃ l r, x = .obj n l ∧ y = .obj n r ∧ sp [x, y] m fun d m' => (∃ k t, d = .obj k t) ∧ Q d m'
theorem do_own {X : Cx} {op : Operator} {k : Nat} {g : Addr} {fd : FuncData} {ps : List Str} {sp : DSp} (n : Nat) (c : OpO X.K (Cl.c n).1 (PySem.dunder op.info.2) g) (F : FnOk X.prog X.w X.K X.mg X.base CX0 k g fd ps (spD sp)) (hr : Room k X.A) (hb : Binds X.K fd ps []) :
    DOp X (binaryOp op) (dOwn n sp) := by
  refine ⟨fun w H m x y dx dy Q' Q hu hx hy h cc => ?_⟩
  obtain ⟨l, r, rfl, rfl, q⟩ := h
  have hx0 := hx
  have hy0 := hy
  unfold Hd at hx hy
  obtain ⟨a, da, va, rfl, na, nda, hda, hpa, hsa⟩ := hx
  obtain ⟨b, db, vb, rfl, nb, ndb, hdb, hpb, hsb⟩ := hy
  intro pins s σ v u I rv ru
  obtain rfl : v = Value.ref a := rv
  obtain rfl : u = Value.ref b := ru
  obtain ⟨ox, od, J, _⟩ := StX.insC_at (C := (Cl.c n).1) I (.inr ⟨_, _, hpa⟩)
  obtain ⟨oy, oe, J2, _⟩ := StX.insC_at (C := (Cl.c n).1) I (.inr ⟨_, _, hpb⟩)
  obtain ⟨mm, Fq⟩ := I.fr
  have got := run_fn (us := [.ref a, .ref b]) (vs := [V.ref a, V.ref b]) F hr hb .nil pass0 I (.cons rfl (.cons rfl .nil)) (Q := fun z H' => (∃ p, z = V.ref p) ∧ Q z H')
    ⟨w, [.obj n l, .obj n r], m, _, .cons hx0 (.cons hy0 .nil), hu, q, fun z d m' H' f' u' h' ⟨⟨k, t, e⟩, q'⟩ => ⟨by subst e; unfold Hd at h'; obtain ⟨p, _, _, rfl, _⟩ := h'; exact ⟨p, rfl⟩, cc _ _ _ _ f' u' h' q'⟩⟩
  refine PySem.W.binop_K Fq I.ok.mod.kin J J2.type c.sf c.at_ c.fn (wpAny_mono got (fun z s' hz => ?_) fun _ _ e => e)
  obtain ⟨z', H', I', rz, ⟨p, rfl⟩, q'⟩ := hz
  obtain rfl : z = Value.ref p := rz
  exact ⟨.ref p, H', I', rfl, q'⟩
/-! ### x or y, texts and lists -/
section
variable {X : Cx} {a b e : Expr} {rest es : List Expr} {ta tb te : DE} {pos p : Pos}
def truD (d : D) (Q : Bool → Prop) : Prop := match d with
  | .str z => z.length ≤ sizeLine ∧ Q (decide (0 < z.length))
  | .lst l => Q (!l.isEmpty)
  | .tup l => Q (!l.isEmpty)
  | .int i => Q (i != 0)
  | .bl b => Q b
  | .non => Q false
  | _ => False
def dOrT (ta tb : DE) : DE := fun env m Q => ta env m fun x m1 => truD x fun k => if k = true then Q x m1 else tb env m1 Q
theorem empty_len {w : W} {H : Hp} {vs : List V} {ds : List D} (h : Hds w H vs ds) : (!vs.isEmpty) = (!ds.isEmpty) := by
  cases ds with
  | nil => rw [h.unnil]; rfl
  | cons d ds => obtain ⟨x, xs, rfl, _⟩ := h.uncons; rfl
theorem tru_of {w : W} {H : Hp} {v : V} {d : D} {K : PySem.W.Frag} {Q : Bool → Prop} (hK : K = Cl.K) (h : Hd w H v d) (t : truD d Q) : ∃ k, TruV K v H k ∧ Q k := by
  unfold truD at t
  split at t
  · rw [Hd.str] at h
    subst h
    rename_i z
    refine ⟨decide (0 < z.length), ⟨t.1, ?_⟩, t.2⟩
    cases hz : z.length with
    | zero => rfl
    | succ n => rw [decide_eq_true (Nat.succ_pos n)]; symm; rw [bne_iff_ne]; omega
  · rw [Hd.lst] at h
    obtain ⟨p, vs, rfl, _, hp, hds⟩ := h
    exact ⟨_, .inl ⟨vs, SqL.of hp, (empty_len hds).symm⟩, t⟩
  · rw [Hd.tup] at h
    obtain ⟨p, vs, rfl, hp, hds⟩ := h
    exact ⟨_, .inr (.inl ⟨vs, hp.sq hK, (empty_len hds).symm⟩), t⟩
  · rw [Hd.int] at h; subst h; exact ⟨_, rfl, t⟩
  · rw [Hd.bl] at h; subst h; exact ⟨_, rfl, t⟩
  · rw [Hd.non] at h; subst h; exact ⟨_, rfl, t⟩
  · exact t.elim
theorem de_orT (ha : De X a ta) (hb : De X (.BoolOp .Or (b :: rest) pos) tb) (hK : X.K = Cl.K := by rfl) : De X (.BoolOp .Or (a :: b :: rest) pos) (dOrT ta tb) := by
  refine ⟨fun w σ H env m Q' Q sl hu h c => wp_of (pe_orT pe_self pe_self) ?_⟩
  refine ha.run w σ H env m _ _ sl hu h fun v d m1 H1 f1 u1 h1 q1 => ?_
  obtain ⟨k, hk, q⟩ := tru_of hK h1 q1
  refine ⟨k, hk, ?_⟩
  cases k with
  | true => exact iteT (c _ _ _ _ f1 u1 h1 (by simpa using q))
  | false => exact iteF (hb.run w σ H1 env m1 _ _ (sl.fr f1) u1 (by simpa using q) (c.from f1))
/-! ### str(x), x[::-1], C() -/
def strD (ds : List D) (m : Nat) (Q : D → Nat → Prop) : Prop := match ds with
  | [.int i] => i.natAbs.log2 < 1920 ∧ Q (.str (Str.ofString (toString i))) m
  | [.str z] => Q (.str z) m
  | _ => False
theorem dc_strA : DCall X (.type "str") strD := by
  refine ⟨fun w H m vs ds Q' Q hu hs h c => ?_⟩
  unfold strD at h
  split at h
  · obtain ⟨v, xs, rfl, h1, h2⟩ := hs.uncons
    cases h2.unnil
    rw [Hd.int] at h1; subst h1
    exact wpC_of call_str_int ⟨_, rfl, h.1, c _ _ _ _ (Fr.refl _ _) hu (Hd.str.mpr rfl) h.2⟩
  · obtain ⟨v, xs, rfl, h1, h2⟩ := hs.uncons
    cases h2.unnil
    rw [Hd.str] at h1; subst h1
    exact wpC_of SkE.call_str_str ⟨_, rfl, c _ _ _ _ (Fr.refl _ _) hu (Hd.str.mpr rfl) h⟩
  · exact h.elim
section
open HT
variable {prog : Program} {w : World} {A : Around} {E : Value → Shared → Prop} {s : Shared}
theorem fm_congr {α β : Type} {f g : α → Option β} : ∀ {l : List α}, (∀ x ∈ l, f x = g x) → l.filterMap f = l.filterMap g
  | [], _ => rfl
  | a :: l, h => by rw [List.filterMap_cons, List.filterMap_cons, h a (List.mem_cons_self ..), fm_congr fun x hx => h x (List.mem_cons_of_mem _ hx)]
theorem places_rev (n : Nat) : Builtin.Slice.slicePlaces ((n : Int) - 1) (-1) (-1) = n := by
  unfold Builtin.Slice.slicePlaces
  have h1 : ¬ ((-1 : Int) > 0) := by omega
  simp only [h1, if_false]
  by_cases h : (n : Int) - 1 > -1
  · have e : ((n : Int) - 1 - -1 - 1) / (- -1) + 1 = (n : Int) := by
      rw [show (- -1 : Int) = 1 by decide, Int.ediv_one]; omega
    rw [if_pos h, e, Int.toNat_natCast]
  · rw [if_neg h]; omega
theorem sliceApplied_rev {sl : Addr} {vs : Value} {n : Nat} {Q : Int × Int × Nat → Shared → Prop} (hs : s.heap.IsSliceOf sl .none .none vs) (ps : IsPart vs (some (-1)))
    (h : Q ((n : Int) - 1, -1, n) s) : wpAny (model prog w) A (Builtin.Slice.sliceApplied (.ref sl) (pure (n : Int))) Q E s := by
  obtain ⟨os, hos, hcs, hds⟩ := id hs
  unfold Builtin.Slice.sliceApplied Builtin.Slice.sliceFields
  refine wpAny_bind (wpAny_bind (wpAny_field hos hds (x := .none) rfl (wpAny_bind (wpAny_field hos hds (x := .none) rfl (wpAny_bind (wpAny_field hos hds (x := vs) rfl (wpAny_pure ?_)))))))
  refine wpAny_bind (HT.slicePart_ ps ?_)
  show wpAny _ _ (if ((-1 : Int) == 0) = true then _ else _) _ _ s
  rw [if_neg (by decide)]
  refine wpAny_bind (slicePart_none (wpAny_bind (slicePart_none (wpAny_bind (wpAny_pure ?_)))))
  show wpAny _ _ (pure ((n : Int) - 1, (-1 : Int), Builtin.Slice.slicePlaces ((n : Int) - 1) (-1) (-1))) _ _ s
  rw [places_rev]
  exact wpAny_pure h
theorem pick_rev (xs : Array Value) : ((List.range xs.size).filterMap fun (m : Nat) => xs[(((xs.size : Nat) : Int) - 1 + (m : Int) * -1).toNat]?).toArray = xs.toList.reverse.toArray := by
  have e : ((List.range xs.size).filterMap fun (m : Nat) => xs[(((xs.size : Nat) : Int) - 1 + (m : Int) * -1).toNat]?) = ((List.range xs.size).map (fun k => xs.size - 1 - k)).filterMap (xs[·]?) := by
    rw [List.filterMap_map]
    apply fm_congr
    intro m hm
    have := List.mem_range.mp hm
    have e2 : (((xs.size : Nat) : Int) - 1 + (m : Int) * -1).toNat = xs.size - 1 - m := by omega
    rw [e2]
    rfl
  rw [e, PySem.W.krv_range, List.filterMap_reverse, PySem.W.krv_all]
theorem getItem_tuple_rev {t sl : Addr} {items : Array Value} {vs : Value} {Q : Value → Shared → Prop} (ht : IsTup s.heap t items) (hs : s.heap.IsSliceOf sl .none .none vs) (ps : IsPart vs (some (-1)))
    (h : Q (.ref s.heap.objs.size) { s with heap := s.heap.push { cls := .type "tuple", data := .seq items.toList.reverse.toArray } })
    (hsz : items.size ≤ sizeLine) : wpAny (model prog w) A (getItem (.ref t) (.ref sl)) Q E s := by
  have htake : sizeOk (.seq items.toList.reverse.toArray) := by
    show items.toList.reverse.toArray.size ≤ sizeLine
    rw [List.size_toArray, List.length_reverse, Array.length_toList]
    exact hsz
  obtain ⟨os, hos, hcs, hds⟩ := id hs
  have hTs : s.TypeIs (.ref sl) "slice" := ⟨os, hos, hcs⟩
  unfold getItem
  try with_reducible refine wpAny_holding ?_
  first | refine wpAny_bind (wpAny_pure ?_) | skip
  refine wpAny_bind (wpAny_sequenceKey ht.typeIs (by decide) ?_)
  refine wpAny_bind (wpAny_callSpecial?_slot (name := Str.ofString "__getitem__") ht.typeIs PyProof.Rows.slot_tuple_getitem
    (wpAny_call_entry PyProof.Rows.slot_tuple_getitem ht.typeIs entry_tuple_getitem ?_ (args_tuple_getitem _ _)))
  show wpAny _ _ (Builtin.Tuple.tupleItemsOf (.ref t) >>= _) _ _ s
  refine wpAny_bind (tupleItemsOf_ ht ?_)
  refine wpAny_bind (wpAny_typeOf hTs ?_)
  rw [if_pos (by decide)]
  refine wpAny_bind (sliceApplied_rev hs ps ?_)
  have hno : ¬ ((((((items.size : Nat) : Int) - 1) == 0) && (-1 : Int) == 1 && (items.size == items.size)) = true) := by
    intro q
    rw [Bool.and_eq_true, Bool.and_eq_true] at q
    exact absurd (eq_of_beq q.1.2) (by decide)
  show wpAny _ _ (if ((((((items.size : Nat) : Int) - 1) == 0) && (-1 : Int) == 1 && (items.size == items.size)) = true) then _ else _) _ _ s
  rw [if_neg hno, pick_rev]
  first
    | exact wpAny_bind (m := Builtin.Tuple.tupleExact _) (wpAny_newObj_type (wpAny_pure ⟨_, rfl, wpAny_pure h⟩) htake)
    | exact wpAny_bind (m := Builtin.Tuple.tupleExact _) (wpAny_newObj_type (wpAny_bind (wpAny_pure (wpAny_pure ⟨_, rfl, wpAny_pure h⟩))) htake)
    | exact wpAny_bind (wpAny_bind (m := Builtin.Tuple.tupleExact _) (wpAny_newObj_type (wpAny_pure (wpAny_pure ⟨_, rfl, wpAny_pure h⟩)) htake))
    | exact wpAny_bind (wpAny_bind (m := Builtin.Tuple.tupleExact _) (wpAny_newObj_type (wpAny_pure ⟨_, rfl, wpAny_pure h⟩) htake))
end
/-- x[::-1], x a list or a tuple -/
theorem pe_revA {X : Cx} {e : Expr} {te : TE} {k : Nat} {p1 p2 p3 pos : Pos} (he : PE X e te) : PE X (.Subscript e (.Slice none none (some (.UnaryOp .USub (.Constant (.int 1) k p1) p2)) p3) pos)
    (fun σ H Q => te σ H fun x H1 => ∃ a xs, x = .ref a ∧ ((SqL X.K H1 a xs ∧ ∀ p, H1 p = none → Q (.ref p) (upd H1 p (.lst xs.reverse))) ∨ (SqT X.K H1 a xs ∧ ∀ p, H1 p = none → Q (.ref p) (upd H1 p (.tup xs.reverse))))) := by
  refine ⟨fun pins s σ H Q I h => ?_⟩
  refine Subscript_ (thn (he.run pins s σ H _ I h) fun v s1 ⟨x, H1, I1, r1, q1⟩ => ?_)
  obtain ⟨a, xs, ex, hx⟩ := q1
  subst ex
  cases r1
  have hst : PO X (some (.UnaryOp .USub (.Constant (.int 1) k p1) p2)) (tPart (tUn (rU fun i => .int (-i)) (tC (.int 1)))) := po_some (pe_un un_neg pe_int)
  refine wpAny_Slice (thn (po_none.run pins s1 σ H1 (fun o H2 => o = none ∧ H2 = H1) I1 ⟨rfl, rfl⟩) fun vl s2 ⟨l, H2, I2, pl, el, e2⟩ => ?_)
  subst el e2
  refine thn (po_none.run pins s2 σ H2 (fun o H3 => o = none ∧ H3 = H2) I2 ⟨rfl, rfl⟩) fun vu s3 ⟨u, H3, I3, pu, eu, e3⟩ => ?_
  subst eu e3
  refine thn (hst.run pins s3 σ H3 (fun o H4 => o = some (-1) ∧ H4 = H3) I3 ⟨1, rfl, -1, rfl, rfl, rfl⟩) fun vs s4 ⟨o, H4, I4, ps, eo, e4⟩ => ?_
  subst eo e4
  have I5 : Inv X pins σ H4 { s4 with heap := s4.heap.push { cls := .type "slice", data := .fields #[vl, vu, vs] } } := I4.kept (t' := s4.toks) fun b ob q => Heap.get?_push_of_some _ q
  show wpAny (model X.prog X.w) X.A (subscriptTail e (.Slice none none (some (.UnaryOp .USub (.Constant (.int 1) k p1) p2)) p3) (.ref a) (.ref s4.heap.objs.size)) (EP X pins σ Q) X.xe { s4 with heap := s4.heap.push { cls := .type "slice", data := .fields #[vl, vu, vs] } }
  rcases hx with ⟨hx, q⟩ | ⟨hx, q⟩
  · obtain ⟨its, r, ht, hz⟩ := I5.list hx
    have hlen := r.length
    refine tail_any (ops := [.ref a, .ref s4.heap.objs.size]) ht.isList.typeIs (PySem.slot_list_getitem.lookup) ?_ (by with_unfolding_all rfl)
    refine wpAny_getItem_list_slice ht.isList (Heap.IsSliceOf.new _ vl vu vs) pl pu ps (by decide) ?_ (by rw [List.size_toArray]; omega)
    rw [PySem.W.krv_pick]
    refine ⟨.ref _, _, I5.laid (t' := s4.toks) (o := .lst xs.reverse) (fun b ob q => Heap.get?_push_of_some _ q) (Nat.le_refl _) ?_, rfl, q _ (I5.hok.fresh (Nat.le_refl _))⟩
    exact ⟨by rw [List.length_reverse]; exact hz, _, 0, r.reverse, Heap.get?_push_size _ rfl⟩
  · obtain ⟨its, r, ht, hz⟩ := I5.tuple hx
    have hlen := r.length
    refine tail_any (ops := [.ref a, .ref s4.heap.objs.size]) ht.typeIs (PyProof.Rows.slot_tuple_getitem.lookup) ?_ (by with_unfolding_all rfl)
    cases pl
    cases pu
    refine getItem_tuple_rev ht (Heap.IsSliceOf.new _ .none .none vs) ps ?_ (by rw [List.size_toArray]; omega)
    refine ⟨.ref _, _, I5.laid (t' := s4.toks) (o := .tup xs.reverse) (fun b ob q => Heap.get?_push_of_some _ q) (Nat.le_refl _) ?_, rfl, q _ (I5.hok.fresh (Nat.le_refl _))⟩
    exact ⟨by rw [List.length_reverse]; exact hz, _, r.reverse, IsTup.new _ _⟩
theorem Hds.rev {w : W} {H : Hp} : ∀ {ds : List D} {vs : List V}, Hds w H vs ds → Hds w H vs.reverse ds.reverse
  | [], vs, h => by rw [h.unnil]; exact .nil
  | d :: ds, vs, h => by
    obtain ⟨x, xs, rfl, h1, h2⟩ := h.uncons
    rw [List.reverse_cons, List.reverse_cons]
    exact h2.rev.app (.cons h1 .nil)
def revD (d : D) (m : Nat) (Q : D → Nat → Prop) : Prop := match d with
  | .lst l => Q (.lst l.reverse) m
  | .tup l => Q (.tup l.reverse) m
  | _ => False
def dRev (te : DE) : DE := fun env m Q => te env m fun d m1 => revD d m1 Q
theorem de_rev {k : Nat} {p1 p2 p3 : Pos} (he : De X e te) (hK : X.K = Cl.K := by rfl) : De X (.Subscript e (.Slice none none (some (.UnaryOp .USub (.Constant (.int 1) k p1) p2)) p3) pos) (dRev te) := by
  refine ⟨fun w σ H env m Q' Q sl hu h c => wp_of (pe_revA pe_self) ?_⟩
  refine he.run w σ H env m _ _ sl hu h fun v d m1 H1 f1 u1 h1 q1 => ?_
  unfold revD at q1
  split at q1
  · rw [Hd.lst] at h1
    obtain ⟨a, vs, rfl, na, hp, hds⟩ := h1
    exact ⟨a, vs, rfl, .inl ⟨SqL.of hp, fun q' hq => c _ _ _ _ (f1.trans (Fr.upd hq)) (u1.upd hq) (new_lst u1 hds.rev hq) q1⟩⟩
  · rw [Hd.tup] at h1
    obtain ⟨a, vs, rfl, hp, hds⟩ := h1
    exact ⟨a, vs, rfl, .inr ⟨hp.sq hK, fun q' hq => c _ _ _ _ (f1.trans (Fr.upd hq)) (u1.upd hq) (new_tup u1 hds.rev hq) q1⟩⟩
  · exact q1.elim
end
section
variable {X : Cx} {tg e : Expr} {te : DE}
/-- a text is walked -/
theorem di_strE (he : De X e te) : Di X tg e (fun env m Q => te env m fun d m1 => ∃ z, d = .str z ∧ Q (signsD z) m1) := by
  refine ⟨fun w σ H env m Q' R sl hu hh c => wpI_of (pi_str pe_self) ?_⟩
  refine he.run w σ H env m _ _ sl hu hh fun v d m1 H1 f1 u1 h1 q1 => ?_
  obtain ⟨z, rfl, q⟩ := q1
  rw [Hd.str] at h1
  exact ⟨z, h1, c _ _ _ _ f1 u1 walks_str q⟩
end
section
variable {X : Cx} {p pos : Pos} {k : Nat} {f : Addr} {fd : FuncData} {ps : List Str} {sp : DIn} {x : Str} {dv : List Value}
/-- C(), the one parameter's default the program's empty tuple -/
theorem de_make0 (c : Nat) (M : Mk X.K (Cl.c c).1 f) (F : FnOk X.prog X.w X.K X.mg X.base CX0 k f fd ps (spInit c sp)) (hr : Room (k + 1) X.A) (hm : X.mg x = some (.ref (Cl.c c).1)) (hb : Binds X.K fd ps dv) (hdv : Vals [V.ref Cl.e0] dv) (h0 : Kt Cl.e0 []) (hg : Gl X x := by rfl)
    (hdb : (x == ("__debug__" : Str)) = false := by decide) :
    De X (.Call (.Name x p) [] [] pos) (fun env m Q => sp [.tup []] m fun fs m2 => Q (.obj c fs) m2) := by
  refine ⟨fun w σ H env m Q' Q sl hu h kk => wp_of (L2.pe_make0 M F hr hg hm hb hdv pass0 hdb) ?_⟩
  intro a dx na nd ne
  have f2 : Fr w H (upd (upd H dx (.own a)) a (.ins (Cl.c c).1 dx [])) := fun b o _ e => by rw [upd_ne (ne_of_none e na), upd_ne (ne_of_none e nd)]; exact e
  have na2 : upd H dx (.own a) a = none := by rw [upd_ne (Ne.symm ne)]; exact na
  refine ⟨w, H, a, dx, [.tup []], [.ref Cl.e0], m, _, ⟨na, fun b o e => by rw [upd_ne (ne_of_none e na), upd_ne (ne_of_none e nd)]; exact e⟩, rfl, upd_same, by rw [upd_ne ne, upd_same], ne, hu.new na, hu.new nd, .cons (by unfold Hd; exact ⟨_, [], rfl, .inl h0, .nil⟩) .nil, (hu.upd nd).upd na2, h, fun fs m' H' xs kp u' hp hx q => ⟨rfl, ?_⟩⟩
  refine kk _ _ m' H' (fun b o nb e => kp b o (ne_of_none e na) nb (f2 b o nb e)) u' ?_ q
  unfold Hd
  refine ⟨a, dx, xs, rfl, hu.new na, hu.new nd, ?_, hp, hx⟩
  refine kp dx _ ne (fun z => hu.new nd (.inl z)) ?_
  rw [upd_ne ne, upd_same]
end
theorem lc_map {i : Nat} {de : DE} {env : Env} {ds : List D} {m : Nat} {Q : List D → Nat → Prop} (g : D → D) (he : ∀ d ∈ ds, ∀ mm (R : D → Nat → Prop), R (g d) mm → de (env.set i (some d)) mm R) (q : Q (ds.map g) m) : lcIn (dgName i) dYes de env ds m Q := by
  refine ⟨fun k acc mm => mm = m ∧ acc = (ds.take k).map g, ⟨rfl, rfl⟩, ?_, ?_⟩
  · rintro k d acc mm hd ⟨rfl, rfl⟩
    obtain ⟨hk, e⟩ := List.getElem?_eq_some_iff.mp hd
    have e2 : ds.take (k + 1) = ds.take k ++ [d] := by rw [← List.take_append_getElem hk, e]
    refine he d (List.mem_of_getElem? hd) mm _ ⟨rfl, ?_⟩
    rw [e2, List.map_append]
    rfl
  · rintro acc mm ⟨rfl, rfl⟩
    rw [List.take_length]
    exact q
end TC
namespace TC
open PySem PySem.Spec PyProof.Rows L2
/-! ### sets of texts that can be walked: made of a list, sorted -/
/-- the text of a member -/
def memZ (p : Int × Value) : Str := match p.2 with
  | .str z _ => z
  | _ => Str.empty
def OkZ (w : World) (p : Int × Value) : Prop := ∃ z tk, p.2 = Value.str z tk ∧ p.1 = hashStr w z
/-- the set of texts at c: M its members, n their number; its table rises and can be walked -/
def ZSet (w : World) (h : Heap) (c : Addr) (M : Str → Bool) (n : Nat) : Prop :=
  ∃ ob ps ep tb, h.get? c = some ob ∧ ob.ExactSet ∧ ob.data = .set ps ep tb ∧ (∀ p ∈ ps.toList, OkZ w p) ∧ (ps.toList.map memZ).Nodup ∧ (∀ z, M z = true ↔ z ∈ ps.toList.map memZ) ∧
    ps.size < scanBound ∧ tb.fits ps.size = true ∧ ps.size = n ∧ Ris tb.place.toList ∧ (w.params.followText "set-order" = true ∨ tb.led = true)
section
variable {prog : Program} {w : World} {h h' : Heap} {c : Addr} {M : Str → Bool} {n : Nat}
theorem ZSet.moves (Z : ZSet w h c M n) (k : ∀ o, h.get? c = some o → h'.get? c = some o) : ZSet w h' c M n := by
  obtain ⟨ob, ps, ep, tb, ho, more⟩ := Z
  exact ⟨ob, ps, ep, tb, k ob ho, more⟩
theorem ZSet.alike {N : Str → Bool} (Z : ZSet w h c M n) (e : ∀ z, N z = M z) : ZSet w h c N n := by
  obtain rfl : N = M := funext e
  exact Z
theorem okZ_elems {l : List (Int × Value)} (g : ∀ p ∈ l, OkZ w p) : ElemsOf (PySem.strKind prog w) l := by
  intro p hp
  obtain ⟨z, tk, e1, e2⟩ := g p hp
  refine ⟨⟨z, ?_, e2⟩, ?_⟩
  · rw [e1]
    exact strKind_is _ _ _ _
  · rw [e1]
    rfl
theorem okZ_is {p : Int × Value} (g : OkZ w p) (z : Str) : (PySem.strKind prog w).is z p.2 = true ↔ memZ p = z := by
  obtain ⟨y, tk, e1, _⟩ := g
  have hy : (PySem.strKind prog w).is y p.2 = true := by rw [e1]; exact strKind_is _ _ _ _
  have em : memZ p = y := by unfold memZ; rw [e1]
  rw [em]
  constructor
  · intro hz
    exact (PySem.strKind prog w).inj _ _ _ hy hz
  · rintro rfl
    exact hy
theorem okZ_mem {l : List (Int × Value)} (g : ∀ p ∈ l, OkZ w p) (z : Str) : z ∈ l.map memZ ↔ ∃ p ∈ l, (PySem.strKind prog w).is z p.2 = true := by
  rw [List.mem_map]
  refine ⟨fun ⟨p, hp, e⟩ => ⟨p, hp, (okZ_is (g p hp) z).mpr e⟩, fun ⟨p, hp, e⟩ => ⟨p, hp, (okZ_is (g p hp) z).mp e⟩⟩
theorem ZSet.setOf (Z : ZSet w h c M n) : h.SetOf (PySem.strKind prog w) c M n := by
  obtain ⟨ob, ps, ep, tb, ho, hx, hd, g, nd, hm, hb, hf, hn, _⟩ := Z
  exact ⟨ob, ps, ep, tb, ho, hx, hd, okZ_elems g, fun z => (hm z).trans (okZ_mem g z), hb, hf, hn⟩
end
section
variable {prog : Program} {w : World} {A : Around} {E : Value → Shared → Prop} {s : Shared} {c : Addr} {M : Str → Bool} {n : Nat}
theorem zset_tail {f : Bool → Sem Unit} (hf : ∀ (b : Bool) (s1 : Shared) (Q1 : Unit → Shared → Prop), Q1 () s1 → wpAny (model prog w) A (f b) Q1 E s1)
    {ob : Obj} {ps : Array (Int × Value)} {ep : Nat} {tb : SetTable} (ho : s.heap.get? c = some ob) (hx : ob.ExactSet) (hd : ob.data = .set ps ep tb)
    {qs : Array (Int × Value)} {tq : SetTable} {N : Str → Bool} (gq : ∀ p ∈ qs.toList, OkZ w p) (ndq : (qs.toList.map memZ).Nodup) (mq : ∀ z, N z = true ↔ z ∈ qs.toList.map memZ)
    (bq : qs.size < scanBound) (fq : tq.fits qs.size = true) (rq : Ris tq.place.toList) (lq : w.params.followText "set-order" = true ∨ tq.led = true) {dm : Bool} {R : Option Bool → Shared → Prop}
    (fin : ∀ h', Heap.SameBut c s.heap h' → ZSet w h' c N qs.size → R (some true) { s with heap := h' }) :
    wpAny (model prog w) A (do
        storeSet c qs tq
        if (!dm && tq.tooFull) = true then do
            f (relayAll tq qs (SetTable.grown qs.size)).2.2
            storeSet c (relayAll tq qs (SetTable.grown qs.size)).1 (relayAll tq qs (SetTable.grown qs.size)).2.1
            pure (some true)
          else pure (some true)) R E s := by
  refine wpAny_bind (wpAny_storeSet_of ho hd ?_ (fits_of_scanBound bq))
  have at1 := store_at (es' := qs) (t' := tq) ho hd
  have sb1 := Heap.SameBut.update s.heap c (Obj.putSet qs tq)
  split
  · have pm := relayAll_perm tq qs (SetTable.grown qs.size)
    have x1 := relayAll_fits tq qs (SetTable.grown qs.size)
    have x2 := relayAll_ris tq qs (SetTable.grown qs.size)
    have x3 := relayAll_led tq qs (SetTable.grown qs.size)
    generalize relayAll tq qs (SetTable.grown qs.size) = Y at pm x1 x2 x3 ⊢
    obtain ⟨rs, tr, gave⟩ := Y
    dsimp only at pm x1 x2 x3 ⊢
    have sz : rs.size = qs.size := by rw [← Array.length_toList, pm.length_eq, Array.length_toList]
    have br : rs.size < scanBound := by rw [sz]; exact bq
    refine wpAny_bind (hf _ _ _ ?_)
    refine wpAny_bind (wpAny_storeSet_of at1 rfl ?_ (fits_of_scanBound br))
    have at2 := store_at (es' := rs) (t' := tr) at1 rfl
    refine wpAny_pure (fin _ (sb1.trans (Heap.SameBut.update _ c _)) ⟨_, rs, _, tr, at2, hx, rfl, ?_, ?_, ?_, br, x1, sz, x2, ?_⟩)
    · exact fun p hp => gq p (pm.mem_iff.mp hp)
    · exact (pm.map memZ).nodup_iff.mpr ndq
    · exact fun z => (mq z).trans (pm.map memZ).mem_iff.symm
    · exact lq.imp id fun y => by rw [x3]; exact y
  · exact wpAny_pure (fin _ sb1 ⟨_, qs, _, tq, at1, hx, rfl, gq, ndq, mq, bq, fq, rfl, rq, lq⟩)
theorem zset_add {z : Str} {tk : Tok} {Q : Bool → Shared → Prop} (Z : ZSet w s.heap c M n) (room : n + 1 < scanBound)
    (hQ : ∀ h', Heap.SameBut c s.heap h' → ZSet w h' c (fun y => M y || decide (y = z)) (if M z = true then n else n + 1) → Q (!M z) { s with heap := h' }) :
    wpAny (model prog w) A (setAddHashed c (.str z tk) ((PySem.strKind prog w).hash z)) Q E s := by
  obtain ⟨ob, ps, ep, tb, ho, hx, hd, g, nd, hm, hb, hf, hn, hr, hl⟩ := Z
  have key : (PySem.strKind prog w).is z (.str z tk) = true := strKind_is _ _ _ _
  have scan : (Value.str z tk).scannable = true := rfl
  have elems : ElemsOf (PySem.strKind prog w) ps.toList := okZ_elems g
  unfold setAddHashed setAddHashedIn
  refine wpAny_holding (wpAny_bind (wpAny_setState_of ho hd hf ?_))
  dsimp only
  rw [byScan_of scan hb elems]
  simp only [↓reduceIte]
  unfold setAddByScan
  refine wpAny_bind (wpAny_bind (wpAny_rule (wpAny_bind (wpAny_setScan_of key ho hd hf elems ?_))))
  cases at_ : List.findIdx? (fun e => (PySem.strKind prog w).is z e.2) ps.toList with
  | some j =>
    dsimp only
    obtain ⟨hj, pj, _⟩ := List.findIdx?_eq_some_iff_getElem.mp at_
    have there : M z = true := (hm z).mpr ((okZ_mem (prog := prog) (w := w) g z).mpr ⟨ps.toList[j], List.getElem_mem hj, pj⟩)
    have got := hQ s.heap (Heap.SameBut.refl c s.heap) ⟨ob, ps, ep, tb, ho, hx, hd, g, nd, fun y => ?_, hb, hf, by rw [if_pos there]; exact hn, hr, hl⟩
    · rw [there] at got
      exact wpAny_pure (wpAny_pure got)
    · rw [Bool.or_eq_true, decide_eq_true_eq, ← hm y]
      refine ⟨fun o => ?_, .inl⟩
      rcases o with o | rfl
      · exact o
      · exact there
  | none =>
    dsimp only
    have new : z ∉ ps.toList.map memZ := fun y => by
      obtain ⟨p, hp, e⟩ := (okZ_mem (prog := prog) (w := w) g z).mp y
      have := List.findIdx?_eq_none_iff.mp at_ p hp
      rw [e] at this
      cases this
    have gone : M z = false := Bool.eq_false_iff.mpr fun y => new ((hm z).mp y)
    have pm := layNew_perm tb ps ((PySem.strKind prog w).hash z) (.str z tk)
    have x1 := layNew_fits tb ps ((PySem.strKind prog w).hash z) (.str z tk)
    have x2 := layNew_ris tb ps ((PySem.strKind prog w).hash z) (.str z tk) hr
    have x3 := layNew_led tb ps ((PySem.strKind prog w).hash z) (.str z tk)
    generalize layNew tb ps ((PySem.strKind prog w).hash z) (.str z tk) = Y at pm x1 x2 x3 ⊢
    obtain ⟨qs, tq, dm, gave⟩ := Y
    dsimp only at pm x1 x2 x3 ⊢
    rw [Array.toList_push] at pm
    have pc : qs.toList.Perm (((PySem.strKind prog w).hash z, Value.str z tk) :: ps.toList) := pm.trans (List.perm_append_singleton _ _)
    have pk : (qs.toList.map memZ).Perm (z :: ps.toList.map memZ) := pc.map memZ
    have gq : ∀ p ∈ qs.toList, OkZ w p := fun p hp => by
      rcases List.mem_cons.mp (pc.mem_iff.mp hp) with rfl | y
      · exact ⟨z, tk, rfl, rfl⟩
      · exact g p y
    have ndq : (qs.toList.map memZ).Nodup := pk.nodup_iff.mpr (List.nodup_cons.mpr ⟨new, nd⟩)
    have mq : ∀ y, (M y || decide (y = z)) = true ↔ y ∈ qs.toList.map memZ := fun y => by
      rw [Bool.or_eq_true, decide_eq_true_eq, hm y, pk.mem_iff, List.mem_cons, or_comm]
    have sz : qs.size = n + 1 := by rw [← Array.length_toList, pc.length_eq, List.length_cons, Array.length_toList, hn]
    have bq : qs.size < scanBound := by rw [sz]; exact room
    have lq : w.params.followText "set-order" = true ∨ tq.led = true := hl.imp id fun y => by rw [x3]; exact y
    have fin : ∀ h', Heap.SameBut c s.heap h' → ZSet w h' c (fun y => M y || decide (y = z)) qs.size → Q true { s with heap := h' } := fun h' sb r => by
      have got := hQ h' sb
      rw [gone] at got
      rw [sz] at r
      exact got r
    have note : ∀ (b : Bool) {s1 : Shared} {Q1 : Unit → Shared → Prop}, Q1 () s1 → wpAny (model prog w) A (match b with | true => rule "set.scan.the-table-gave-way" | false => pure ()) Q1 E s1 := fun b s1 Q1 q => by
      cases b
      · exact wpAny_pure q
      · exact wpAny_rule q
    refine wpAny_bind (note _ ?_)
    split
    · refine wpAny_bind ?_
      rw [hashByValue_scannable 8 scan]
      refine wpAny_pure (zset_tail ?_ ho hx hd gq ndq mq bq ?_ ?_ ?_ fun h' sb r => ?_)
      · intro b s1 Q1 q
        cases b
        · exact wpAny_pure q
        · exact wpAny_rule q
      · first | (split <;> first | exact x1 | exact SetTable.fits_plain_off x1) | exact x1
      · first | (split <;> exact x2) | exact x2
      · first | (split <;> exact lq) | exact lq
      · dsimp only
        exact wpAny_pure (fin h' sb r)
    · refine wpAny_bind (wpAny_pure ?_)
      simp only [↓reduceIte]
      refine zset_tail ?_ ho hx hd gq ndq mq bq x1 x2 lq fun h' sb r => ?_
      · intro b s1 Q1 q
        cases b
        · exact wpAny_pure q
        · exact wpAny_rule q
      · dsimp only
        exact wpAny_pure (fin h' sb r)
end
end TC
namespace TC
open PySem PySem.Spec PyProof.Rows L2
variable [Cl]
abbrev bareSet (w : World) : Obj := { cls := .type "set", dict := none, data := .set #[] 0 (.fresh 0 0 (!w.params.followText "set-order")) }
theorem zset_bare (w : World) (h : Heap) : ZSet w (h.push (bareSet w)) h.objs.size (fun _ => false) 0 := by
  refine ⟨_, #[], 0, _, Heap.get?_push_size _ rfl, ⟨rfl, rfl, rfl⟩, rfl, fun p hp => by simp at hp, by simp, fun z => by simp, by decide, rfl, rfl, List.Pairwise.nil, ?_⟩
  show _ ∨ (!w.params.followText "set-order") = true
  cases w.params.followText "set-order"
  · exact .inr rfl
  · exact .inl rfl
section
variable {prog : Program} {w : World} {A : Around} {R : Result → Shared → Prop} {E : Value → Shared → Prop} {J : Addr} {fp wr : List Addr} {G : Array GenState → Array GenState → Prop} {n : Nat} {P : Nat → Value → Prop} {St : Nat → Shared → Prop} {s : Shared}
theorem code_bare (a : Value) {Q1 : Value → Shared → Prop} (h : Q1 (.ref s.heap.objs.size) { s with heap := s.heap.push (bareSet w) }) :
    codeAny (model prog w) A (.call (.builtin "set.__new__") ⟨[.type "set", a], []⟩) (wants Q1 E) s := by
  refine codeAny_of_tree ?_
  refine wpAny_bind (wpAny_of_eq (PySem.F.newCall_set_1 a) (wpAny_pure ⟨plainId_quiet PySem.F.plain_set_new _, codeAny_builtin PySem.F.entry_set_new ?_⟩))
  rw [Around.under_plainId PySem.F.plain_set_new _]
  unfold Builtin.«set.__new__» Builtin.Frozenset.newClass
  have own := sub_set_self
  obtain ⟨hp, g, d, tk, os⟩ := s
  dsimp only
  wp_walk
  refine wpAny_askSetting (wpAny_pure ?_)
  dsimp only
  simp only [newObj]
  exact wpAny_bind (wpAny_alloc (wpAny_pure (wpAny_pure h)))
theorem zset_turns (Wk : WalksS prog w A.in1 J fp wr G n P St) (S : Addr) (out : S ∉ fp) (xs : List Str) (hx : xs.length = n) (hn : n ≤ 4000)
    (val : ∀ i v, P i v → ∃ t, v = .str (xs.getD i Str.empty) t) (left : Nat) :
    ∀ (i : Nat) (s : Shared), i + left = n → St i s → ZSet w s.heap S (fun z => (xs.take i).any (· == z)) (cnt xs i) →
      (∀ s', Moved (S :: wr) G s s' → ZSet w s'.heap S (fun z => (xs.take n).any (· == z)) (cnt xs n) → R (.ok (.ret .none)) s') →
      codeAny (model prog w) A (.builtin "set.update.loop" ⟨[.ref S, .ref J], []⟩) R s := by
  have outw : S ∉ wr := fun h => out (Wk.sub _ h)
  have wider : ∀ b ∈ wr, b ∈ S :: wr := fun b hb => List.mem_cons_of_mem _ hb
  induction left with
  | zero =>
    intro i s hi st hS fin
    have hi : i = n := by omega
    subst hi
    refine codeAny_builtin PyProof.Rows.F.entry_set_update_loop ?_
    rw [Around.under_plainId PyProof.Rows.F.plain_set_update_loop _]
    refine wpAny_bind (Wk.done s _ _ st fun s' mv => ?_)
    exact wpAny_pure (fin s' (mv.mono wider) (hS.moves fun o e => mv.heap S o outw e))
  | succ left ih =>
    intro i s hi st hS fin
    have lt : i < n := by omega
    refine codeAny_builtin PyProof.Rows.F.entry_set_update_loop ?_
    rw [Around.under_plainId PyProof.Rows.F.plain_set_update_loop _]
    refine wpAny_bind (Wk.item i s _ _ lt st fun v s' hP st' mv => ?_)
    obtain ⟨t, rfl⟩ := val i v hP
    have hS1 := hS.moves (h' := s'.heap) fun o e => mv.heap S o outw e
    show wpAny _ A.in1 (holding [Value.str (xs.getD i Str.empty) t] (setAdd S (.str (xs.getD i Str.empty) t)) >>= _) _ _ s'
    refine wpAny_bind (wpAny_holding ?_)
    unfold setAdd
    refine wpAny_holding (wpAny_bind ((PySem.strKind prog w).pyHash (k := xs.getD i Str.empty) (strKind_is _ _ _ _) ?_))
    have room : cnt xs i + 1 < scanBound := by have := cnt_le xs i; unfold scanBound; omega
    refine zset_add (s := { s' with toks := s'.toks + 1 }) hS1 room fun h' same hS2 => ?_
    have hS3 : ZSet w h' S (fun z => (xs.take (i + 1)).any (· == z)) (cnt xs (i + 1)) := by
      have e : cnt xs (i + 1) = if (xs.take i).any (· == xs.getD i Str.empty) = true then cnt xs i else cnt xs i + 1 := rfl
      rw [e]
      exact hS2.alike fun z => take_any (by omega) z
    refine wpAny_pure ⟨plainId_quiet PyProof.Rows.F.plain_set_update_loop _, ih (i + 1) _ (by omega) (Wk.frame _ s' _ _ st' (Nat.le_succ _) fun b hb o e => ?_) hS3 fun s2 mv2 hS4 => ?_⟩
    · rw [same.2 b (fun q => out (q ▸ hb))]
      exact e
    · refine fin s2 (Moved.trans Wk.gtrans ((mv.mono wider).then_heap (Nat.le_succ _) fun b o hb e => ?_) mv2) hS4
      rw [same.2 b (fun q => hb (q ▸ List.mem_cons_self))]
      exact e
set_option maxHeartbeats 3200000 in
/-- set(a list of texts) -/
theorem zset_of_list {l : Addr} {its : Array Value} {xs : List Str} {Q : Value → Shared → Prop} (calm : A.handled = none) (hl : s.heap.IsList l its) (hv : StrsAre its.toList xs) (hn : xs.length ≤ 4000)
    (fin : ∀ (h' : Heap) (tk : Nat), ZSet w h' s.heap.objs.size (fun z => xs.any (· == z)) (cnt xs its.size) → (∀ b o, b < s.heap.objs.size → s.heap.get? b = some o → h'.get? b = some o) → Q (.ref s.heap.objs.size) { s with heap := h', toks := tk }) :
    wpAny (model prog w) A (call (.type "set") [.ref l]) Q E s := by
  obtain ⟨c, tl, hmro⟩ := PySem.F.called_set.mro
  have k1 := PySem.F.called_set.made
  have k2 := PySem.F.called_set.sub
  refine wpAny_call (codeAny_of_tree ?_)
  refine wpAny_pure ⟨Code.quiet_builtin _ (by decide +kernel), codeAny_builtin PySem.F.entry_type_call ?_⟩
  rw [Around.under_plain (weight_type_call_type "set" [.ref l] []) rfl]
  have k3 := PySem.F.called_set.notType
  have k4 := PySem.F.called_set.canCreate
  have k5 := PySem.F.typeCall_set_1 (.ref l)
  repeat (any_goals (first | assumption | wp_step))
  refine codeAny_mono (code_bare (.ref l) (E := E) (Q1 := fun obj s1 => obj = .ref s.heap.objs.size ∧ s1 = { s with heap := s.heap.push (bareSet w) }) ⟨rfl, rfl⟩) fun r s1 hr => ?_
  match r, hr with
  | .error e, hr => exact hr
  | .ok (.ret obj), hr =>
    obtain ⟨rfl, rfl⟩ := hr
    have at0 : (s.heap.push (bareSet w)).get? s.heap.objs.size = some (bareSet w) := Heap.get?_push_size _ rfl
    have ty0 : Shared.TypeIs { s with heap := s.heap.push (bareSet w) } (.ref s.heap.objs.size) "set" := ⟨_, at0, rfl⟩
    have k6 := PySem.F.called_set.init.lookup
    have k7 := PySem.F.called_set.init.bind (.ref s.heap.objs.size)
    repeat (any_goals (first | assumption | wp_step))
    refine codeAny_mono (codeAny_call_builtin (R := wants (fun r s2 => r = .none ∧ ∃ h' tk, s2 = { s with heap := h', toks := tk } ∧ ZSet w h' s.heap.objs.size (fun z => xs.any (· == z)) (cnt xs its.size) ∧ (∀ b o, b < s.heap.objs.size → s.heap.get? b = some o → h'.get? b = some o)) E)
      PySem.F.called_set.init.plain PySem.F.entry_set_init (check_set_init_1 ty0 ?_)) fun r2 s2 hr2 => ?_
    · obtain ⟨⟨cl, di, da, sl⟩, hol, hcl, nl, hdl⟩ := hl
      simp only at hcl hdl
      subst hcl; subst hdl
      have hol2 : (s.heap.push (bareSet w)).get? l = some { cls := .type "list", dict := di, data := .seq its nl, slots := sl } := Heap.get?_push_of_some _ hol
      have q1 := PySem.F.sub_list_set
      have q2 := PySem.F.sub_list_frozenset
      have q3 : (Value.type "list" == Value.type "dict") = false := by decide
      have hl2 : (s.heap.push (bareSet w)).IsList l its := ⟨_, hol2, rfl, nl, rfl⟩
      have lt : l < s.heap.objs.size := Heap.lt_size hol
      have two : (s.heap.push (bareSet w)).objs.size = s.heap.objs.size + 1 := Heap.size_push ..
      unfold Builtin.«set.__init__» noKeywords Builtin.Frozenset.updateFrom
      generalize hPI : pyIter = PI
      wp_walk
      subst hPI
      refine wpAny_pyIter_list hl2 (wpAny_bind (wpAny_runValue ?_))
      have still : A.in1.in1.in1.handled = none := by simp [calm]
      have lI : l ≠ (s.heap.push (bareSet w)).objs.size := by rw [two]; exact Nat.ne_of_lt (Nat.lt_succ_of_lt lt)
      have out : s.heap.objs.size ∉ [(s.heap.push (bareSet w)).objs.size, l] := by
        rw [two]
        simp only [List.mem_cons, List.not_mem_nil, or_false, not_or]
        exact ⟨Nat.ne_of_lt (Nat.lt_succ_self _), Nat.ne_of_gt lt⟩
      have hx : xs.length = its.size := by rw [← StrsAre.len_eq hv, Array.length_toList]
      refine zset_turns ((Walks.list still _ l lI its).toS) s.heap.objs.size out xs hx (by omega) (fun i v e => SS.strs_at hv i v (by rw [Array.getElem?_toList]; exact e)) its.size 0 _ (by omega) ⟨⟨_, Heap.get?_push_size _ rfl, rfl, rfl⟩, hl2.push _⟩ ?_ ?_
      · exact (zset_bare w s.heap).moves fun o e => Heap.get?_push_of_some _ e
      · rintro ⟨h', g', d', tk', os'⟩ mv hS
        obtain rfl : g' = s.gens := mv.gens
        obtain rfl : d' = s.drawn := mv.drawn
        obtain rfl : os' = s.os := mv.os
        have hS : ZSet w h' s.heap.objs.size (fun z => xs.any (· == z)) (cnt xs its.size) := by
          rw [← hx, List.take_length] at hS
          rw [← hx]
          exact hS
        show wpAny _ _ _ _ _ _
        refine wpAny_pure (wpAny_pure ⟨rfl, h', tk', rfl, hS, fun b o hb e => ?_⟩)
        refine mv.heap b o ?_ (Heap.get?_push_of_some _ (Heap.get?_push_of_some _ e))
        rw [two]
        simp only [List.mem_cons, List.not_mem_nil, or_false, not_or]
        exact ⟨Nat.ne_of_lt hb, Nat.ne_of_lt (Nat.lt_succ_of_lt hb)⟩
    · match r2, hr2 with
      | .error e, hr2 => exact hr2
      | .ok (.ret r), hr2 =>
        obtain ⟨rfl, h', tk, rfl, hS, hk⟩ := hr2
        repeat (any_goals (first | assumption | wp_step))
        exact fin _ _ hS hk
      | .ok .next, hr2 => exact hr2.elim
      | .ok .brk, hr2 => exact hr2.elim
      | .ok .cont, hr2 => exact hr2.elim
  | .ok .next, hr => exact hr.elim
  | .ok .brk, hr => exact hr.elim
  | .ok .cont, hr => exact hr.elim
def txtOf (v : Value) : Str := match v with
  | .str z _ => z
  | _ => Str.empty
theorem zset_strs : ∀ (l : List Value), (∀ v ∈ l, ∃ z tk, v = Value.str z tk) → StrsAre l (l.map txtOf)
  | [], _ => .nil
  | v :: l, h => by
    obtain ⟨z, tk, rfl⟩ := h v (List.mem_cons_self ..)
    exact .cons z tk (zset_strs l fun u hu => h u (List.mem_cons_of_mem _ hu))
/-- sorted(a set of texts) -/
theorem zset_sorted {c : Addr} {M : Str → Bool} {Q : Value → Shared → Prop} (Z : ZSet w s.heap c M n) (calm : A.handled = none) (few : n < 64)
    (fin : ∀ s' p (o : Array Value) (k : Nat) (zs : List Str), (∀ b u, s.heap.get? b = some u → s'.heap.get? b = some u) → s'.gens = s.gens → s'.os = s.os → s.heap.objs.size ≤ p →
      s'.heap.get? p = some (seqObj "list" o k) → StrsAre o.toList zs → sortedS zs = true → zs.Nodup → (∀ z, z ∈ zs ↔ M z = true) → zs.length = n → Q (.ref p) s') :
    wpAny (model prog w) A (call (.builtin "sorted") [.ref c]) Q E s := by
  obtain ⟨ob, ps, ep, tb, ho, hx, hd, g, nd, hm, hb, hf, hn, hr, hl⟩ := Z
  refine Calls.call_function_entry kind_sorted plain_sorted entry_sorted (args_sorted1 _) ?_
  unfold Builtin.«sorted»
  refine wpAny_bind (m := checkCount "sorted" 1 1 _) (wpAny_pure (wpAny_bind (collect_set (A := A.in1) calm ⟨ob, ho, hx.1, hd⟩ hf hb hr hl fun s1 vs k1 hz g1 o1 pm => ?_)))
  have many : vs.length = n := by rw [pm.length_eq, List.length_map, Array.length_toList]; exact hn
  have texts : StrsAre vs (vs.map txtOf) := zset_strs vs fun v hv => by
    obtain ⟨p, hp, e⟩ := List.mem_map.mp (pm.mem_iff.mp hv)
    obtain ⟨z, tk, e1, _⟩ := g p hp
    exact ⟨z, tk, by rw [← e]; exact e1⟩
  have same : (vs.map txtOf).Perm (ps.toList.map memZ) := by
    have := pm.map txtOf
    rw [List.map_map] at this
    exact this
  refine wpAny_bind (wpAny_newList ?_ (by rw [many, sizeLine_eq]; omega))
  have laid : (s1.heap.push (seqObj "list" vs.toArray 0)).get? s1.heap.objs.size = some (seqObj "list" vs.toArray 0) := Heap.get?_push_size _ rfl
  refine wpAny_bind (wpAny_holding (wpAny_call_entry slot_list_sort ⟨_, laid, rfl⟩ entry_list_sort
    (list_sort_treeK strKind_oneLt laid texts.keysOf (fun v₁ v₂ rest e => keyKind_strs (by rw [← e]; exact texts)) (by rw [many]; exact few) fun st hp hs => ⟨_, rfl, ?_⟩) (args_list_sort _)))
  obtain ⟨zs, a1, a2, a3⟩ := sorted_out_str texts hp hs
  obtain ⟨k, at_⟩ := sortedHeap_at (vs := vs) (out := (arrOf st).map (·.2)) laid
  have perm := a2.trans same
  refine wpAny_pure ⟨_, rfl, fin _ s1.heap.objs.size _ k zs (fun b u e => ?_) g1 o1 hz at_ a1 a3 (perm.nodup_iff.mpr nd) (fun z => by rw [perm.mem_iff, ← hm z]) ?_⟩
  · have e2 := k1 b u e
    have below := Heap.lt_size e2
    show (sortedHeap (s1.heap.push (seqObj "list" vs.toArray 0)) s1.heap.objs.size vs ((arrOf st).map (·.2))).get? b = some u
    rw [sortedHeap_old (Nat.ne_of_lt below) (by rw [size_push']; exact Nat.lt_succ_of_lt below)]
    exact Heap.get?_push_of_some _ e2
  · rw [perm.length_eq, List.length_map, Array.length_toList]; exact hn
end
/-! ### sorted(set(e)), as data -/
section
variable {X : Cx} {a : Expr} {te : DE} {p p2 q r : Pos}
def dSortSet (te : DE) : DE := fun env m Q => te env m fun d m1 => ∃ xs : List Str, d = .lst (xs.map D.str) ∧ xs.length < 64 ∧ ∀ ys : List Str, ys.Nodup → (∀ z, z ∈ ys ↔ z ∈ xs) → sortedS ys = true → Q (.lst (ys.map D.str)) m1
theorem de_sortset (hm : X.mg "sorted" = none) (hm2 : X.mg "set" = none) (ha : De X a te) (hc : X.calm = true := by rfl) (hg : Gl X "sorted" := by rfl) (hg2 : Gl X "set" := by rfl) (na : starEach [a] X.env = (false, eval a X.env) :: starEach [] X.env := by rfl) :
    De X (.Call (.Name "sorted" p) [.Call (.Name "set" p2) [a] [] q] [] r) (dSortSet te) := by
  refine ⟨fun w σ H env m Q' Q sl hu h k pins s I => ?_⟩
  refine Call_ (ld_blt I hg hm boot_sorted ?_)
  refine PyProof.Rows.callWith_builtin1 (PyProof.Rows.args_cons ?_ rfl) rfl rfl
  refine Call_ (ld_blt I hg2 hm2 boot_set ?_)
  have got := ha.run w σ H env m _ (fun v H1 => ∃ (l : Addr) (xs : List Str) (m1 : Nat), v = .ref l ∧ SqL X.K H1 l (xs.map V.str) ∧ xs.length < 64 ∧ Fr w H H1 ∧ UI w m1 H1 ∧ ∀ ys : List Str, ys.Nodup → (∀ z, z ∈ ys ↔ z ∈ xs) → sortedS ys = true → Q' (.lst (ys.map D.str)) m1) sl hu h (fun v d m1 H1 f1 u1 h1 q1 => by
    obtain ⟨xs, rfl, hl, q1⟩ := q1
    rw [Hd.lst] at h1
    obtain ⟨l, vs, rfl, _, hp, hds⟩ := h1
    have := hds.flat (by rw [List.all_eq_true]; intro d hd; obtain ⟨b, _, rfl⟩ := List.mem_map.mp hd; rfl)
    have e2 : (xs.map D.str).map fv = xs.map V.str := by rw [List.map_map]; rfl
    rw [e2] at this
    subst this
    exact ⟨l, xs, m1, rfl, SqL.of hp, hl, f1, u1, q1⟩) pins s I
  refine PyProof.Rows.callWith_type1 (PyProof.Rows.args_cons (thn got fun v s1 ⟨x, H1, I1, r1, q1⟩ => PyProof.Rows.args_nil ?_) na) na rfl
  obtain ⟨l, xs, m1, rfl, hq, hl, f1, u1, q1⟩ := q1
  cases r1
  obtain ⟨its, rv, pl, hz⟩ := I1.list hq
  have size : its.toArray.size = xs.length := by rw [List.size_toArray, ← rv.length, List.length_map]
  refine zset_of_list (I1.ok.hd hc) pl.isList (by simpa using strsAre_of rv) (by omega) fun h' tk hS hk => ?_
  refine PyProof.Rows.args_nil ?_
  rw [size] at hS
  have I2 : Inv X pins σ H1 { s1 with heap := h', toks := tk } := I1.kept fun b o e => hk b o (Heap.lt_size e) e
  have small := cnt_le xs xs.length
  have hS : ZSet X.w ({ s1 with heap := h', toks := tk } : Shared).heap s1.heap.objs.size (fun z => xs.any (· == z)) (cnt xs xs.length) := hS
  generalize ({ s1 with heap := h', toks := tk } : Shared) = s2 at I2 hS
  refine zset_sorted (s := s2) hS (I2.ok.hd hc) (by omega) fun s' p o c zs kk g1 o1 hp at_ a1 a3 nd mem hlen => ?_
  have room : (zs.map V.str).length ≤ sizeLine := by rw [List.length_map, hlen, sizeLine_eq]; omega
  have free : H1 p = none := I2.hok.fresh hp
  have J : Inv X pins σ (upd H1 p (.lst (zs.map V.str))) { s2 with heap := s'.heap, gens := s'.gens, drawn := s'.drawn, toks := s'.toks } :=
    I2.call (ch := []) (Un.laid kk hp free) (I2.hok.laid kk hp ⟨room, o.toList, c, vals_of_strs a1, at_⟩) (by rw [g1]; exact I2.bare) (fun _ z => nomatch z)
  have e : s' = { s2 with heap := s'.heap, gens := s'.gens, drawn := s'.drawn, toks := s'.toks } := by
    cases s'
    cases s2
    cases o1
    rfl
  rw [e]
  refine ⟨.ref p, _, J, rfl, k _ _ m1 _ (f1.trans (Fr.upd free)) (u1.upd free) (new_lst u1 (hds_strs zs) free) (q1 zs nd (fun z => ?_) a3)⟩
  rw [mem z, List.any_eq_true]
  constructor
  · rintro ⟨y, hy, e⟩
    rw [← beq_iff_eq.mp e]
    exact hy
  · exact fun hz => ⟨z, hz, beq_self_eq_true z⟩
end
end TC
namespace TC
open PySem PySem.Spec PyProof.Rows L2
variable [Cl]
/-! ### x, y, z = (e, [], []): two lists filled later -/
def W.cell (w : W) (p : Addr) : W := ⟨w.u, p :: w.ex, p :: w.ce, fun a h => (List.mem_cons.mp h).elim (fun e => by rw [e]; exact List.mem_cons_self ..) fun e => List.mem_cons_of_mem _ (w.sub a e)⟩
theorem W.cell_gr {w : W} {p : Addr} {H : Hp} (hp : H p = none) : Gr w (w.cell p) H := ⟨rfl, fun a ha => List.mem_cons_of_mem _ ha, fun a ha => by
    rcases List.mem_cons.mp ha with rfl | ha
    · exact .inr hp
    · exact .inl ha, fun a ha => List.mem_cons_of_mem _ ha⟩
theorem W.cell_ui {w : W} {p : Addr} {H : Hp} {m : Nat} (u : UI w m H) (hp : H p = none) : UI (w.cell p) m (upd H p (.lst [])) := ⟨fun b e => (u.upd (o := .lst []) hp).1 b e, fun b hb => by
    rcases List.mem_cons.mp hb with rfl | hb
    · exact ⟨_, upd_same⟩
    · exact (u.upd (o := .lst []) hp).2 b hb⟩
theorem W.cell_hd {w : W} {p : Addr} {H : Hp} {m : Nat} (u : UI w m H) (hp : H p = none) : Hd (w.cell p) (upd H p (.lst [])) (.ref p) (.cell p []) := by
  rw [Hd.cell]
  refine ⟨rfl, List.mem_cons_self .., fun z => ?_, [], upd_same, .nil⟩
  obtain ⟨x, y, z, e', _⟩ := u.1 p z
  rw [hp] at e'; cases e'
section
variable {X : Cx} {rest : List Stmt} {um : DM} {e : Expr} {te : DE} {pos : Pos}
def dmPar3N (i j k : Nat) (te : DE) (u : DM) : DM := fun nw nx rt env m => te env m fun d m1 => ∀ p q, nw p → nw q → p ≠ q → (∀ (j' : Nat) (c : Addr) (l : List D), env[j']? = some (some (.cell c l)) → c ≠ p ∧ c ≠ q) →
  u nw nx rt (((env.set i (some d)).set j (some (.cell p []))).set k (some (.cell q []))) m1
theorem dmT_par3n {i j k : Nat} {x y z : Str} {px py pz pt l1 l2 : Pos} {kt k2 pt2} (hc : X.calm = true) (hN : X.N.Nodup) (ha : De X e te) (hr : DmT X rest um) (hi : X.N[i]? = some x := by rfl) (hj : X.N[j]? = some y := by rfl) (hk : X.N[k]? = some z := by rfl) (hij : i ≠ j := by decide) (hik : i ≠ k := by decide) (hjk : j ≠ k := by decide)
    (hx : X.env.scope.names.lookup x = some .local := by rfl) (hy : X.env.scope.names.lookup y = some .local := by rfl) (hz : X.env.scope.names.lookup z = some .local := by rfl)
    (hw : swappedStores [.Tuple [.Name x px, .Name y py, .Name z pz] kt pt] (.Tuple [e, .List [] l1, .List [] l2] k2 pt2) X.env = pure (some [x, y, z]) := by rfl)
    (hs : swapsWithSole [.Tuple [.Name x px, .Name y py, .Name z pz] kt pt] (.Tuple [e, .List [] l1, .List [] l2] k2 pt2) pos.line X.env = pure false := by rfl)
    (g1 : starEach [e, .List [] l1, .List [] l2] X.env = (false, eval e X.env) :: starEach [.List [] l1, .List [] l2] X.env := by rfl)
    (g2 : starEach [.List [] l1, .List [] l2] X.env = (false, eval (.List [] l1) X.env) :: starEach [.List [] l2] X.env := by rfl)
    (g3 : starEach [.List [] l2] X.env = (false, eval (.List [] l2) X.env) :: starEach [] X.env := by rfl) :
    DmT X (.Assign [.Tuple [.Name x px, .Name y py, .Name z pz] kt pt] (.Tuple [e, .List [] l1, .List [] l2] k2 pt2) pos :: rest) (dmPar3N i j k te um) := by
  refine ⟨fun w0 H0 w nw σ H env m nx rt Dn W f sl hu q c r => wpSs_of (pss_cons (ps_par3 hc hN hi hj hk hij hik hjk hx hy hz (pa_cons pe_self (pa_cons (pe_lst pa_nil) (pa_cons (pe_lst pa_nil) pa_nil g3) g2) g1) hw hs) pss_self) ?_⟩
  refine ha.run w σ H env m _ _ sl hu q fun v1 d m1 H1 f1 u1 h1 q1 => ?_
  refine ⟨Nat.zero_le _, fun p hp => ?_⟩
  refine ⟨Nat.zero_le _, fun p' hp' => ?_⟩
  refine ⟨_, _, _, rfl, ?_⟩
  have fr0 := f.trans (f1.lessW W.l)
  have np : nw p := (W.new p).2 (fr0.free (u1.lessW W.l) hp)
  have fr1 : Fr w0 H0 (upd H1 p (.lst [])) := fr0.trans (Fr.upd hp)
  have ne : p ≠ p' := fun z => by rw [← z, upd_same] at hp'; cases hp'
  have hp1 : H1 p' = none := by rw [upd_ne (Ne.symm ne)] at hp'; exact hp'
  have np' : nw p' := (W.new p').2 (fr0.free (u1.lessW W.l) hp1)
  have q2 := q1 p p' np np' ne fun j' c l e => by
    obtain ⟨v, _, hv⟩ := (sl.fr f1).2 j' _ e
    rw [Hd.cell] at hv
    obtain ⟨_, _, _, us, hk, _⟩ := hv
    exact ⟨ne_of_none hk hp, ne_of_none hk hp1⟩
  have u2 := TC.W.cell_ui u1 hp
  have u3 := TC.W.cell_ui u2 hp'
  have gr1 := TC.W.cell_gr (w := w) hp
  have gr2 := TC.W.cell_gr (w := w.cell p) hp'
  refine hr.run w0 H0 ((w.cell p).cell p') nw _ _ _ m1 nx rt Dn ⟨⟨W.l.u, fun a ha => List.mem_cons_of_mem _ (List.mem_cons_of_mem _ (W.l.ex a ha))⟩, W.new, W.av⟩ (fr1.trans (Fr.upd hp')) ?_ u3 q2 c r
  have s2 := (((sl.fr f1).grow gr1).fr (Fr.upd (o := .lst []) hp))
  have s3 := ((s2.grow gr2).fr (Fr.upd (o := .lst []) hp'))
  have d2 := ((h1.grow gr1).fr (Fr.upd (o := .lst []) hp))
  have d3 := ((d2.grow gr2).fr (Fr.upd (o := .lst []) hp'))
  exact ((s3.set i d3).set j (((TC.W.cell_hd u1 hp).grow gr2).fr (Fr.upd (o := .lst []) hp'))).set k (TC.W.cell_hd u2 hp')
/-! ### list, tuple, len of a list that is being filled -/
theorem dc_listC : DCall X (.type "list") (fun ds m Q => ∃ p l, ds = [.cell p l] ∧ Q (.lst l) m) := by
  refine ⟨fun w H m vs ds Q' Q hu hs h c => ?_⟩
  obtain ⟨p, l, rfl, q⟩ := h
  obtain ⟨v, xs, rfl, h1, h2⟩ := hs.uncons
  cases h2.unnil
  rw [Hd.cell] at h1
  obtain ⟨rfl, mc, nu, us, ha, hds⟩ := h1
  exact wpC_of call_list_of ⟨_, us, rfl, .inl (SqL.of ha), fun p hp => c _ _ _ _ (Fr.upd hp) (hu.upd hp) (new_lst hu hds hp) q⟩
theorem dc_tupC : DCall X (.type "tuple") (fun ds m Q => ∃ p l, ds = [.cell p l] ∧ Q (.tup l) m) := by
  refine ⟨fun w H m vs ds Q' Q hu hs h c => ?_⟩
  obtain ⟨p, l, rfl, q⟩ := h
  obtain ⟨v, xs, rfl, h1, h2⟩ := hs.uncons
  cases h2.unnil
  rw [Hd.cell] at h1
  obtain ⟨rfl, mc, nu, us, ha, hds⟩ := h1
  exact wpC_of call_tuple_of ⟨_, us, rfl, .inl ⟨SqL.of ha, fun p hp => c _ _ _ _ (Fr.upd hp) (hu.upd hp) (new_tup hu hds hp) q⟩⟩
theorem dc_lenC : DCall X (.builtin "len") (fun ds m Q => ∃ p l, ds = [.cell p l] ∧ Q (.int (l.length : Nat)) m) := by
  refine ⟨fun w H m vs ds Q' Q hu hs h c => ?_⟩
  obtain ⟨p, l, rfl, q⟩ := h
  obtain ⟨v, xs, rfl, h1, h2⟩ := hs.uncons
  cases h2.unnil
  rw [Hd.cell] at h1
  obtain ⟨rfl, mc, nu, us, ha, hds⟩ := h1
  refine wpC_of call_len_seq ⟨_, us, rfl, .inl (SqL.of ha), ?_⟩
  rw [hds.len]
  exact c _ _ _ _ (Fr.refl _ _) hu (Hd.int.mpr rfl) q
end
end TC
namespace TC
open PySem PySem.Spec PyProof.Rows L2
variable [Cl]
/-! ### == of data at any depth -/
mutual
def py : D → PyData
  | .bl b => .bool b
  | .int i => .int i
  | .str s => .str s
  | .lst l => .list (pyL l)
  | .tup l => .tuple (pyL l)
  | _ => .none
def pyL : List D → List PyData
  | [] => []
  | d :: l => py d :: pyL l
end
mutual
def kind : D → Bool
  | .lst l => kindL l
  | .tup l => kindL l
  | .obj _ _ => false
  | .urn => false
  | .cell _ _ => false
  | .dct _ => false
  | .tupz _ => false
  | _ => true
def kindL : List D → Bool
  | [] => true
  | d :: l => kind d && kindL l
end
mutual
theorem Hd.dp {K : PySem.W.Frag} (hK : K = Cl.K) {w : W} {H : Hp} {v : V} : ∀ {d : D}, kind d = true → Hd w H v d → L2.Dp K H v (py d)
  | .non, _, h => by rw [Hd.non] at h; subst h; exact .non
  | .bl b, _, h => by rw [Hd.bl] at h; subst h; exact .bl _
  | .int i, _, h => by rw [Hd.int] at h; subst h; exact .int _
  | .str s, _, h => by rw [Hd.str] at h; subst h; exact .str _
  | .lst l, k, h => by
    rw [kind] at k
    rw [Hd.lst] at h
    obtain ⟨a, vs, rfl, _, ha, hs⟩ := h
    rw [py]
    exact .lst (SqL.of ha) (Hds.dp hK k hs)
  | .tup l, k, h => by
    rw [kind] at k
    rw [Hd.tup] at h
    obtain ⟨a, vs, rfl, ha, hs⟩ := h
    rw [py]
    exact .tup (ha.sq hK) (Hds.dp hK k hs)
  | .obj c l, k, h => by rw [kind] at k; cases k
  | .urn, k, h => by rw [kind] at k; cases k
  | .cell p l, k, h => by rw [kind] at k; cases k
  | .dct l, k, h => by rw [kind] at k; cases k
  | .tupz l, k, h => by rw [kind] at k; cases k
theorem Hds.dp {K : PySem.W.Frag} (hK : K = Cl.K) {w : W} {H : Hp} {vs : List V} : ∀ {ds : List D}, kindL ds = true → Hds w H vs ds → L2.DpAll K H vs (pyL ds)
  | [], _, h => by rw [h.unnil]; exact .nil
  | d :: ds, k, h => by
    rw [kindL, Bool.and_eq_true] at k
    obtain ⟨x, xs, rfl, h1, h2⟩ := h.uncons
    rw [pyL]
    exact .cons (h1.dp hK k.1) (h2.dp hK k.2)
end
/-- plain data, at most so deep -/
def tidy (n : Nat) (d : D) : Bool := kind d && PyData.canLay0 (py d) && decide ((py d).depth ≤ n)
def tidyL (n : Nat) (l : List D) : Bool := kindL l && PyData.canLayAll0 (pyL l) && decide (PyData.depthAll (pyL l) ≤ n)
theorem tidyL_of {n : Nat} : ∀ {l : List D}, (∀ d ∈ l, tidy n d = true) → tidyL n l = true
  | [], _ => by simp [tidyL, kindL, pyL, PyData.canLayAll0, PyData.depthAll]
  | d :: l, h => by
    have h1 := h d (List.mem_cons_self ..)
    have h2 := tidyL_of fun e he => h e (List.mem_cons_of_mem _ he)
    simp only [tidyL, tidy, kindL, pyL, PyData.canLayAll0, PyData.depthAll, Bool.and_eq_true, decide_eq_true_eq] at h1 h2 ⊢
    exact ⟨⟨⟨h1.1.1, h2.1.1⟩, h1.1.2, h2.1.2⟩, Nat.max_le.mpr ⟨h1.2, h2.2⟩⟩
theorem tidy_tup {n : Nat} {l : List D} (h : tidyL n l = true) : tidy (n + 1) (.tup l) = true := by
  simp only [tidyL, Bool.and_eq_true, decide_eq_true_eq] at h
  simp only [tidy, kind, py, PyData.canLay0, PyData.depth, Bool.and_eq_true, decide_eq_true_eq]
  exact ⟨⟨h.1.1, h.1.2⟩, Nat.succ_le_succ h.2⟩
theorem tidy_lst {n : Nat} {l : List D} (h : tidyL n l = true) : tidy (n + 1) (.lst l) = true := by
  simp only [tidyL, Bool.and_eq_true, decide_eq_true_eq] at h
  simp only [tidy, kind, py, PyData.canLay0, PyData.depth, Bool.and_eq_true, decide_eq_true_eq]
  exact ⟨⟨h.1.1, h.1.2⟩, Nat.succ_le_succ h.2⟩
theorem tidy_mono {n n' : Nat} {d : D} (h : tidy n d = true) (l : n ≤ n') : tidy n' d = true := by
  simp only [tidy, Bool.and_eq_true, decide_eq_true_eq] at h ⊢
  exact ⟨h.1, Nat.le_trans h.2 l⟩
theorem tidy_int {n : Nat} {i : Int} : tidy n (.int i) = true := by simp [tidy, kind, py, PyData.canLay0, PyData.depth]
theorem tidy_non {n : Nat} : tidy n .non = true := by simp [tidy, kind, py, PyData.canLay0, PyData.depth]
theorem tidy_bl {n : Nat} {b : Bool} : tidy n (.bl b) = true := by simp [tidy, kind, py, PyData.canLay0, PyData.depth]
theorem tidy_str {n : Nat} {z : Str} (h : PyData.strOk z = true) : tidy n (.str z) = true := by simp [tidy, kind, py, PyData.canLay0, PyData.depth, h]
theorem tidy_shaped {n : Nat} {d : D} (h : tidy n d = true) (hn : n ≤ 64) : kind d = true ∧ SeqAt.shaped (py d) = true := by
  simp only [tidy, Bool.and_eq_true, decide_eq_true_eq] at h
  refine ⟨h.1.1, ?_⟩
  unfold SeqAt.shaped
  rw [h.1.2, Bool.true_and]
  exact decide_eq_true (Nat.le_trans h.2 hn)
/-- == of data -/
def eqD (a b : D) : Bool := PyData.eqv (py a) (py b)
def dEqA (neg : Bool) : D2 := fun x y m Q => tidy 60 x = true ∧ tidy 60 y = true ∧ Q (.bl (if neg then !eqD x y else eqD x y)) m
section
variable {X : Cx}
theorem do_eqD (hu : X.A.units + 64 < cLine) (hK : X.K = Cl.K := by rfl) : DOp X (compareOp .Eq) (dEqA false) := by
  refine ⟨fun w H m x y dx dy Q' Q hu' hx hy h c => ?_⟩
  obtain ⟨h1, h2, q⟩ := h
  have s1 := tidy_shaped h1 (by decide)
  have s2 := tidy_shaped h2 (by decide)
  exact wpOp_of (op_eqD hu) ⟨_, _, hx.dp hK s1.1, hy.dp hK s2.1, s1.2, s2.2, c _ _ _ _ (Fr.refl _ _) hu' (Hd.bl.mpr rfl) q⟩
theorem do_neD (hu : X.A.units + 64 < cLine) (hK : X.K = Cl.K := by rfl) : DOp X (compareOp .NotEq) (dEqA true) := by
  refine ⟨fun w H m x y dx dy Q' Q hu' hx hy h c => ?_⟩
  obtain ⟨h1, h2, q⟩ := h
  have s1 := tidy_shaped h1 (by decide)
  have s2 := tidy_shaped h2 (by decide)
  exact wpOp_of (op_neD hu) ⟨_, _, hx.dp hK s1.1, hy.dp hK s2.1, s1.2, s2.2, c _ _ _ _ (Fr.refl _ _) hu' (Hd.bl.mpr rfl) q⟩
end
-- no truths in it
mutual
def nob : D → Bool
  | .bl _ => false
  | .lst l => nobL l
  | .tup l => nobL l
  | _ => true
def nobL : List D → Bool
  | [] => true
  | d :: l => nob d && nobL l
end
mutual
theorem eqv_iff : ∀ {a b : D}, kind a = true → kind b = true → nob a = true → nob b = true → (PyData.eqv (py a) (py b) = true ↔ a = b)
  | .non, b, _, kb, _, nb => by cases b <;> simp_all [py, PyData.eqv, kind, nob]
  | .bl x, b, _, kb, na, nb => by simp [nob] at na
  | .int i, b, _, kb, _, nb => by cases b <;> simp_all [py, PyData.eqv, kind, nob]
  | .str s, b, _, kb, _, nb => by cases b <;> simp_all [py, PyData.eqv, kind, nob]
  | .lst l, b, ka, kb, na, nb => by
    cases b with
    | lst r =>
      rw [kind] at ka kb
      rw [nob] at na nb
      rw [py, py, PyData.eqv, eqv_iffL ka kb na nb]
      exact ⟨fun h => by rw [h], fun h => by injection h⟩
    | bl x => simp [nob] at nb
    | _ => simp_all [py, PyData.eqv, kind, nob]
  | .tup l, b, ka, kb, na, nb => by
    cases b with
    | tup r =>
      rw [kind] at ka kb
      rw [nob] at na nb
      rw [py, py, PyData.eqv, eqv_iffL ka kb na nb]
      exact ⟨fun h => by rw [h], fun h => by injection h⟩
    | bl x => simp [nob] at nb
    | _ => simp_all [py, PyData.eqv, kind, nob]
  | .obj c l, b, ka, _, _, _ => by simp [kind] at ka
  | .urn, b, ka, _, _, _ => by simp [kind] at ka
  | .cell p l, b, ka, _, _, _ => by simp [kind] at ka
  | .dct l, b, ka, _, _, _ => by simp [kind] at ka
  | .tupz l, b, ka, _, _, _ => by simp [kind] at ka
theorem eqv_iffL : ∀ {a b : List D}, kindL a = true → kindL b = true → nobL a = true → nobL b = true → (PyData.eqvAll (pyL a) (pyL b) = true ↔ a = b)
  | [], [], _, _, _, _ => by simp [pyL, PyData.eqvAll]
  | [], b :: r, _, _, _, _ => by simp [pyL, PyData.eqvAll]
  | a :: l, [], _, _, _, _ => by simp [pyL, PyData.eqvAll]
  | a :: l, b :: r, ka, kb, na, nb => by
    rw [kindL, Bool.and_eq_true] at ka kb
    rw [nobL, Bool.and_eq_true] at na nb
    rw [pyL, pyL, PyData.eqvAll, Bool.and_eq_true, eqv_iff ka.1 kb.1 na.1 nb.1, eqv_iffL ka.2 kb.2 na.2 nb.2]
    exact ⟨fun h => by rw [h.1, h.2], fun h => by injection h with h1 h2; exact ⟨h1, h2⟩⟩
end
theorem eqD_iff {a b : D} (ka : kind a = true) (kb : kind b = true) (na : nob a = true) (nb : nob b = true) : eqD a b = true ↔ a = b := eqv_iff ka kb na nb
/-! ### a name of the module that holds a plain tuple -/
section
variable {X : Cx} {pos : Pos}
theorem de_glob {x : Str} {a : Addr} {d : D} (hm : X.mg x = some (.ref a)) (hd : ∀ (w : W) (H : Hp), Hd w H (.ref a) d) (hg : Gl X x := by rfl) (hdb : (x == ("__debug__" : Str)) = false := by decide) : De X (.Name x pos) (dC d) := by
  refine ⟨fun w σ H env m Q' Q hs hu h c pins s I => ?_⟩
  exact ld_glob I hg hm ⟨.ref a, H, I, rfl, c _ _ _ _ (Fr.refl _ _) hu (hd w H) h⟩ hdb
end
/-! ### x.extend(e) -/
def dmExt (i : Nat) (te : DE) : DM := fun nw nx _ env m => ∃ p l, env[i]? = some (some (.cell p l)) ∧ nw p ∧ te env m fun y m1 => ∃ zs, y = .lst zs ∧ nocL zs = true ∧ nocL l = true ∧ l.length + zs.length ≤ sizeLine ∧ SepL p (env.set i none) ∧ nx (env.set i (some (.cell p (l ++ zs)))) m1
theorem dm_ext {X : Cx} {pos : Pos} {i : Nat} {x : Str} {e : Expr} {te : DE} {px apos cpos : Pos} (hv : De X (.Name x px) (dVar i)) (he : De X e te)
    (hbase : attributeBase (.Name x px) "extend" X.env (eval (.Name x px) X.env) = eval (.Name x px) X.env := by rfl)
    (hfew : ((backTo cpos (starEach [e] X.env)).all (fun x => !x.1) && (backToKw cpos (keywordEach [] X.env)).all (fun x => x.1.isSome)
      && decide (([e] : List Expr).length + ([] : List Keyword).length + (if ([] : List Keyword).isEmpty then 0 else 1) < 30)) = true := by rfl)
    (hline : (apos.endLine == cpos.line) = true := by rfl) (hs : starEach [e] X.env = (false, eval e X.env) :: starEach [] X.env := by rfl) (hplain : (backTo cpos (starEach [] X.env)).any (·.1) = false := by rfl)
    (hsw : swapsWith (.Call (.Attribute (.Name x px) "extend" apos) [e] [] cpos) none pos.line X.env = pure false := by rfl) :
    Dm1 X (.Expr (.Call (.Attribute (.Name x px) "extend" apos) [e] [] cpos) pos) (dmExt i te) := by
  refine ⟨fun w0 H0 w nw σ H env m nx rt Dn W f sl hu q c r => wpS_of (ps_expr (pe_bm PySem.F.plainAttrs_list PySem.F.slot_list_extend PySem.F.type_list_extend mt_extend pe_self (pa_cons pe_self pa_nil hs) hbase hfew hline hs hplain) hsw) ?_⟩
  obtain ⟨p, l, e0, hnw, q⟩ := q
  refine hv.run w σ H env m (fun d mm => d = .cell p l ∧ mm = m) _ sl hu ⟨_, e0, rfl, rfl⟩ fun v d m1 H1 f1 u1 h1 q1 => ?_
  obtain ⟨rfl, rfl⟩ := q1
  rw [Hd.cell] at h1
  obtain ⟨rfl, mc, nu, vs, hp, hvs⟩ := h1
  refine ⟨.inl ⟨rfl, vs, SqL.of hp⟩, ?_⟩
  refine he.run w σ H1 env m1 _ _ (sl.fr f1) u1 q fun y dy m2 H2 f2 u2 h2 q2 => ?_
  obtain ⟨zs, rfl, nz, nl, hlen, sep, q3⟩ := q2
  rw [Hd.lst] at h2
  obtain ⟨b, us, rfl, nb, hb, hus⟩ := h2
  have fr := f1.trans f2
  have hp2 : H2 p = some (.lst vs) := f2 _ _ nu hp
  have hvs2 := hvs.fr f2
  refine ⟨p, b, vs, us, rfl, rfl, hp2, hb, by rw [hvs.len, hus.len]; exact hlen, ?_⟩
  have mex := w.sub _ mc
  refine c _ _ m2 _ (fun b o nb e => ?_) (fun b o nb e => ?_) (fun b e => ?_) (u2.put mex nu) (cell_fill (sl.fr fr) e0 sep (nocL_app nl nz) (hvs2.app hus)) q3
  · rw [upd_ne (ne_of_none e ((W.new p).1 hnw))]
    exact (f.trans (fr.lessW W.l)) b o nb e
  · rw [upd_ne (fun z => nb (by rw [z]; exact .inr mex))]
    exact fr.x b o nb e
  · by_cases hb : b = p
    · rw [hb, upd_same] at e; cases e
    · rw [upd_ne hb] at e
      exact fr.free u2 e
/-! ### f'{a} {b}' -/
def fmtD (d : D) (Q : Str → Prop) : Prop := match d with
  | .str y => y.length ≤ sizeLine ∧ Q y
  | .int i => i.natAbs.log2 < 1920 ∧ Q (Str.ofString (toString i))
  | _ => False
section
variable {X : Cx} {a b : Expr} {ta tb : DE} {pos p1 p2 p3 : Pos} {z : Str} {j : Option Str}
theorem de_fstr2 {k} (ha : De X a ta) (hb : De X b tb) : De X (.JoinedStr [.FormattedValue a (-1) none p1, .Constant (.str z) k p3, .FormattedValue b (-1) none p2] pos)
    (fun env m Q => ta env m fun x m1 => fmtD x fun y => (Str.empty ++ y).length ≤ sizeLine ∧ ((Str.empty ++ y) ++ z).length ≤ sizeLine ∧ tb env m1 fun x2 m2 => fmtD x2 fun y2 => ((Str.empty ++ y) ++ z ++ y2).length ≤ sizeLine ∧ Q (.str ((Str.empty ++ y) ++ z ++ y2)) m2) := by
  refine ⟨fun w σ H env m Q' Q sl hu h c => wp_of (pe_joined (.cons (pe_fmt pe_self) (.cons pe_str (.cons (pe_fmt pe_self) .nil)))) ?_⟩
  refine ha.run w σ H env m _ _ sl hu h fun v d m1 H1 f1 u1 h1 q1 => ?_
  have key : ∀ y : Str, ((Str.empty ++ y).length ≤ sizeLine ∧ ((Str.empty ++ y) ++ z).length ≤ sizeLine ∧ tb env m1 fun x2 m2 => fmtD x2 fun y2 => ((Str.empty ++ y) ++ z ++ y2).length ≤ sizeLine ∧ Q' (.str ((Str.empty ++ y) ++ z ++ y2)) m2) →
      ∃ y_1 : Str, V.str y = .str y_1 ∧ (Str.empty ++ y_1).length ≤ sizeLine ∧ tJs [tC (.str z), tFmt (wpE X b)] (Str.empty ++ y_1) σ H1 fun out H1 => Q (.str out) H1 := fun y hq => by
    obtain ⟨l1, l2, q⟩ := hq
    refine ⟨y, rfl, l1, z, rfl, l2, ?_⟩
    refine hb.run w σ H1 env m1 _ _ (sl.fr f1) u1 q fun v2 d2 m2 H2 f2 u2 h2 q2 => ?_
    unfold fmtD at q2
    split at q2
    · rw [Hd.str] at h2
      exact .inl ⟨_, h2, q2.1, _, rfl, q2.2.1, c _ _ _ _ (f1.trans f2) u2 (Hd.str.mpr rfl) q2.2.2⟩
    · rw [Hd.int] at h2
      exact .inr ⟨_, h2, q2.1, _, rfl, q2.2.1, c _ _ _ _ (f1.trans f2) u2 (Hd.str.mpr rfl) q2.2.2⟩
    · exact q2.elim
  unfold fmtD at q1
  split at q1
  · rw [Hd.str] at h1
    exact .inl ⟨_, h1, q1.1, key _ q1.2⟩
  · rw [Hd.int] at h1
    exact .inr ⟨_, h1, q1.1, key _ q1.2⟩
  · exact q1.elim
end
end TC
namespace TC
open PySem PySem.Spec PyProof.Rows L2
variable [Cl]
/-! ### the type of what a name holds -/
theorem looks_ty {X : Cx} {pins : List (Addr × Obj)} {σ : L2.St} {H : Hp} {s : Shared} {w : W} {v : V} {u : Value} {d : D} (I : Inv X pins σ H s) (hK : X.K = Cl.K) (r : RelV v u) (h : Hd w H v d) (n : noUrn d = true) : PySem.W.Looks (model X.prog X.w) s.heap (typeOf u) (.type (tyD d)) := by
  cases d with
  | non => rw [Hd.non] at h; subst h; cases (show u = Value.none from r); exact PySem.W.Looks.of_pure rfl
  | bl b => rw [Hd.bl] at h; subst h; cases (show u = Value.bool b from r); exact PySem.W.Looks.of_pure rfl
  | int i => rw [Hd.int] at h; subst h; obtain ⟨t, rfl⟩ := r; exact PySem.W.Looks.of_pure rfl
  | str z => rw [Hd.str] at h; subst h; obtain ⟨t, rfl⟩ := r; exact PySem.W.Looks.of_pure rfl
  | lst l =>
    rw [Hd.lst] at h
    obtain ⟨a, vs, rfl, _, ha, _⟩ := h
    obtain rfl : u = Value.ref a := r
    obtain ⟨its, rv, ⟨o, n, ho, hc, _, hd⟩, _⟩ := I.list (SqL.of ha)
    exact hc ▸ (PySem.W.Looks.ld ho).andThen .now
  | tup l =>
    rw [Hd.tup] at h
    obtain ⟨a, vs, rfl, ha, _⟩ := h
    obtain rfl : u = Value.ref a := r
    obtain ⟨its, rv, ⟨o, ho, hc, n, hd⟩, _⟩ := I.tuple (ha.sq hK)
    exact hc ▸ (PySem.W.Looks.ld ho).andThen .now
  | obj c l => cases n
  | urn => cases n
  | cell p l => cases n
  | dct l => cases n
  | tupz l => cases n
/-! ### a def called from within a builtin -/
theorem call_own {X : Cx} {k : Nat} {f : Addr} {fd : FuncData} {ps : List Str} {sp : Sp} (F : FnOk X.prog X.w X.K X.mg X.base CX0 k f fd ps sp) (hb : Binds X.K fd ps []) {A : Around} (hr : Room k A) (hfr : A.frames = X.A.frames) {pins : List (Addr × Obj)} {σ : L2.St} {H : Hp} {s : Shared}
    (I : Inv X pins σ H s) {vs : List V} {us : List Value} (r : Vals vs us) {Q : VK} (h : sp vs H Q E0) : wpAny (model X.prog X.w) A (call (.ref f) us) (EP X pins σ Q) X.xe s := by
  have e0 : Env0 X.prog X.w X.K X.mg X.base A X.stack s H := by
    have e := I.env0
    exact ⟨by rw [hfr]; exact e.frames, e.mod, e.bs, e.bsz, e.funs, e.frf, e.hok, e.bare⟩
  have hl := F.len _ _ _ _ h
  have hl2 : us.length = ps.length := by rw [← r.length]; exact hl
  refine wpAny_call (codeAny_mono (F.run A X.stack s H ⟨us, []⟩ us vs Q E0 hr e0 (by
    have := hb s us I.kIn (by simpa using hl2)
    simpa using this) r h) fun r s' hq => ?_)
  cases r with
  | error e => exact (pass0 (X := X) pins σ H s e s' I hq)
  | ok fl =>
    cases fl with
    | ret u => exact I.after hq
    | next => exact False.elim hq
    | brk => exact False.elim hq
    | cont => exact False.elim hq
/-! ### == and != of an own class -/
structure EqO (K : PySem.W.Frag) (C f : Addr) : Prop where
  at_ : PySem.W.findIn K (.ref C) "__eq__" = some (some (.ref f))
  fn : PySem.W.isFn K (.ref f) = true
  ne : PySem.W.findIn K (.ref C) "__ne__" = some (some (.builtin "object.__ne__"))
  ob : PySem.W.mroIn K C (.type "object") = some true
/-- what stands on the right: a thing of a built-in kind, or of an own class that is none beneath C -/
def rhsOk (K : PySem.W.Frag) (C : Addr) (d : D) : Prop := noUrn d = true ∨ ∃ n l, d = .obj n l ∧ PySem.W.notFirst K C (.ref (Cl.c n).1) = true
theorem sub_type {K : PySem.W.Frag} {C : Addr} {T : String} {ms : List Value} (h : fastBuiltinMro T = some ms) (n : ms.contains (.ref C) = false) : PySem.W.subIn K (.type T) (.ref C) = some false := by
  show (fastBuiltinMro T).map (·.contains (.ref C)) = some false
  rw [h]
  show some (ms.contains (.ref C)) = some false
  rw [n]
theorem mro_two {C : Addr} {T : String} : ([Value.type T, Value.type "object"] : List Value).contains (.ref C) = false := by
  first
    | rfl
    | simp
theorem mro_three {C : Addr} {T U : String} : ([Value.type T, Value.type U, Value.type "object"] : List Value).contains (.ref C) = false := by
  first
    | rfl
    | simp
theorem notFirst_ty {K : PySem.W.Frag} {C : Addr} {d : D} (n : noUrn d = true) : PySem.W.notFirst K C (.type (tyD d)) = true := by
  have key : PySem.W.subIn K (.type (tyD d)) (.ref C) = some false := by
    cases d with
    | non => exact sub_type (ms := [.type "NoneType", .type "object"]) (by decide +kernel) mro_two
    | bl b =>
      show PySem.W.subIn K (.type "bool") (.ref C) = some false
      exact sub_type (ms := [.type "bool", .type "int", .type "object"]) (by decide +kernel) mro_three
    | int i =>
      show PySem.W.subIn K (.type "int") (.ref C) = some false
      exact sub_type (ms := [.type "int", .type "object"]) (by decide +kernel) mro_two
    | str z =>
      show PySem.W.subIn K (.type "str") (.ref C) = some false
      exact sub_type (ms := [.type "str", .type "object"]) (by decide +kernel) mro_two
    | lst l =>
      show PySem.W.subIn K (.type "list") (.ref C) = some false
      exact sub_type (ms := [.type "list", .type "object"]) (by decide +kernel) mro_two
    | tup l =>
      show PySem.W.subIn K (.type "tuple") (.ref C) = some false
      exact sub_type (ms := [.type "tuple", .type "object"]) (by decide +kernel) mro_two
    | obj c l => cases n
    | urn => cases n
    | cell p l => cases n
    | dct l => cases n
    | tupz l => cases n
  unfold PySem.W.notFirst
  rw [key]
  simp
/-- the machine's type of what stands on the right -/
theorem looks_rhs {X : Cx} {pins : List (Addr × Obj)} {σ : L2.St} {H : Hp} {s : Shared} {w : W} {v : V} {u : Value} {d : D} {C : Addr} (I : Inv X pins σ H s) (hK : X.K = Cl.K) (r : RelV v u) (h : Hd w H v d) (ok : rhsOk X.K C d) :
    ∃ tb, PySem.W.Looks (model X.prog X.w) s.heap (typeOf u) tb ∧ PySem.W.notFirst X.K C tb = true := by
  rcases ok with n | ⟨n, l, rfl, hn⟩
  · exact ⟨_, looks_ty I hK r h n, notFirst_ty n⟩
  · unfold Hd at h
    obtain ⟨a, da, va, rfl, _, _, _, hpa, _⟩ := h
    obtain rfl : u = Value.ref a := r
    obtain ⟨oy, oe, J2, _⟩ := StX.insC_at (C := (Cl.c n).1) I (.inr ⟨_, _, hpa⟩)
    exact ⟨_, J2.type, hn⟩
def dEqO (n : Nat) (neg : Bool) (K : PySem.W.Frag) (sp : DSp) : D2 := fun x y m Q => ∃ l, x = .obj n l ∧ rhsOk K (Cl.c n).1 y ∧ sp [x, y] m fun d m' => ∃ b, d = .bl b ∧ Q (.bl (if neg then !b else b)) m'
section
variable {X : Cx} {k : Nat} {g : Addr} {fd : FuncData} {ps : List Str} {sp : DSp}
theorem do_eqO (n : Nat) (c : EqO X.K (Cl.c n).1 g) (F : FnOk X.prog X.w X.K X.mg X.base CX0 k g fd ps (spD sp)) (hr : Room k X.A) (hb : Binds X.K fd ps []) (hK : X.K = Cl.K := by rfl) : DOp X (compareOp .Eq) (dEqO n false X.K sp) := by
  refine ⟨fun w H m x y dx dy Q' Q hu hx hy h cc => ?_⟩
  obtain ⟨l, rfl, ok, q⟩ := h
  have hx0 := hx
  unfold Hd at hx
  obtain ⟨a, da, va, rfl, na, nda, hda, hpa, hsa⟩ := hx
  intro pins s σ v u I rv ru
  obtain rfl : v = Value.ref a := rv
  obtain ⟨ox, od, J, _⟩ := StX.insC_at (C := (Cl.c n).1) I (.inr ⟨_, _, hpa⟩)
  obtain ⟨tb, ht, hn⟩ := looks_rhs I hK ru hy ok
  obtain ⟨mm, Fq⟩ := I.fr
  refine PySem.W.cmp_K (op := .Eq) hr.units0 Fq I.ok.mod.kin J ht hn c.at_ c.fn ?_
  have r2 : Vals [V.ref a, y] [Value.ref a, u] := .cons rfl (.cons ru .nil)
  refine wpAny_mono (call_own F hb hr rfl I r2 (Q := fun z H' => (∃ b, z = V.bl b) ∧ Q z H')
    ⟨w, [.obj n l, dy], m, _, .cons hx0 (.cons hy .nil), hu, q, fun z d m' H' f' u' h' ⟨b, e, q'⟩ => ⟨by subst e; rw [Hd.bl] at h'; exact ⟨b, h'⟩, cc _ d _ _ f' u' h' (by subst e; exact q')⟩⟩) (fun z s' hz => ?_) fun _ _ e => e
  obtain ⟨z', H', I', rz, ⟨b, rfl⟩, q'⟩ := hz
  obtain rfl : z = Value.bool b := rz
  exact ⟨.bl b, H', I', rfl, q'⟩
theorem ifBound_objNe {M : Model} {A : Around} {E : Value → Shared → Prop} {s : Shared} {K : PySem.W.Frag} {x C : Addr} {ox : Obj} {od : Option Obj} {args : List Value} {Q : Option Value → Shared → Prop} (X : K.In s.heap) (I : PySem.W.InstAt s.heap x ox C od) (hs : PySem.W.findIn K (.ref C) "__ne__" = some (some (.builtin "object.__ne__")))
    (h : wpAny M A (call (.builtin "object.__ne__") (.ref x :: args)) (fun v => Q (some v)) E s) : wpAny M A (callSpecialIfBound? (.ref x) "__ne__" args) Q E s := by
  simp only [callSpecialIfBound?, bindSpecialIfBound?]
  refine wpAny_holding (wpAny_bind (wpAny_bind (wpAny_bind (I.type.here ((PySem.W.looks_findIn X hs).here ?_)))))
  refine wpAny_bind (wpAny_askSetting (wpAny_ite ?_))
  have fin : wpAny M A (call (.builtin "object.__ne__") ([.ref x] ++ args) >>= fun v => pure (some v)) Q E s := wpAny_bind (wpAny_mono h (fun v s' h' => wpAny_pure h') fun _ _ h' => h')
  split
  · exact wpAny_bind (wpAny_of_eq (PySem.F.cmp_object.ne.bind _) (wpAny_pure (by exact fin)))
  · exact wpAny_tryCatch (wpAny_bind (wpAny_of_eq (PySem.F.cmp_object.ne.bind _) (wpAny_pure (by exact fin))))
theorem ne_entry {M : Model} {A : Around} {E : Value → Shared → Prop} {s : Shared} {K : PySem.W.Frag} {x C f : Addr} {ox : Obj} {od : Option Obj} {b : Value} {Q : Fin → Shared → Prop} (hu : A.units < cLine) (X : K.In s.heap) (I : PySem.W.InstAt s.heap x ox C od) (hs : PySem.W.findIn K (.ref C) "__eq__" = some (some (.ref f))) (hf : PySem.W.isFn K (.ref f) = true)
    (h : wpAny M A (call (.ref f) [.ref x, b]) (fun v s' => ∃ k, v = .bool k ∧ Q (.done (.ret (.bool (!k)))) s') E s) : wpAny M A (Builtin.«object.__ne__» ⟨[.ref x, b], []⟩) Q E s := by
  unfold Builtin.«object.__ne__»
  refine wpAny_bind (wpAny_pure ?_)
  dsimp only
  refine wpAny_bind (wpAny_cRoomFor hu ?_)
  refine wpAny_bind (PySem.W.ifBound_K X I hs hf (wpAny_mono h (fun v s' hv => ?_) fun _ _ e => e))
  obtain ⟨k, rfl, q⟩ := hv
  dsimp only
  refine wpAny_bind (wpAny_truthy_bool ?_)
  exact wpAny_pure q
theorem rc_ne {prog : Program} {w : World} {A : Around} {E : Value → Shared → Prop} {s : Shared} {K : PySem.W.Frag} {x C f L : Addr} {h₀ : Heap} {m : Str → Option Value} {ox : Obj} {od : Option Obj} {b tb : Value} {Q : Value → Shared → Prop} (hu : A.units + 1 < cLine) (F : PyProof.Rows.Fr h₀ L s.heap m) (X₀ : K.In h₀) (I : PySem.W.InstAt s.heap x ox C od) (hb : PySem.W.Looks (model prog w) s.heap (typeOf b) tb) (hn : PySem.W.notFirst K C tb = true)
    (hs : PySem.W.findIn K (.ref C) "__ne__" = some (some (.builtin "object.__ne__"))) (hob : PySem.W.mroIn K C (.type "object") = some true) (he : PySem.W.findIn K (.ref C) "__eq__" = some (some (.ref f))) (hf : PySem.W.isFn K (.ref f) = true)
    (h : wpAny (model prog w) A.in1 (call (.ref f) [.ref x, b]) (fun v s' => ∃ k, v = .bool k ∧ Q (.bool (!k)) s') E s) : wpAny (model prog w) A (richCompare .NotEq (.ref x) b) Q E s := by
  have X := X₀.keeps F.keep
  have one : wpAny (model prog w) A (tryCompare (.ref x) (cmpInfo .NotEq).2.1 b) (fun r s' => ∃ v, r = some v ∧ Q v s') E s := by
    unfold tryCompare
    refine wpAny_bind (ifBound_objNe X I hs ?_)
    refine wpAny_call (codeAny_call_builtin PySem.F.cmp_object.ne.plain PySem.F.cmpEntry_ne (PySem.W.check_slot PySem.F.cmpKind_ne PySem.F.cmpSplit_ne (I.type.andThen (PySem.W.looks_mroIn X hob)) (PySem.F.cmpArgs_ne _ _) ?_))
    refine ne_entry (Nat.lt_of_le_of_lt (by exact Nat.le_refl _) hu) X I he hf (wpAny_mono h (fun v s' hv => ?_) fun _ _ e => e)
    obtain ⟨k, rfl, q⟩ := hv
    exact ⟨k, rfl, wpAny_pure ⟨_, rfl, q⟩⟩
  unfold richCompare
  simp only [oneThing_ref]
  refine wpAny_holding (wpAny_bind (wpAny_cRoomFor (by omega) ?_))
  refine wpAny_bind (I.type.here (wpAny_bind (hb.here ?_)))
  split
  · rename_i q
    have e : PySem.W.subIn K tb (.ref C) = some false := by
      rcases Bool.or_eq_true_iff.mp hn with e | e
      · rw [beq_iff_eq.mp e] at q; simp at q
      · exact beq_iff_eq.mp e
    refine wpAny_bind ((PySem.W.looks_subIn X e).here ?_)
    simp only [Bool.false_eq_true, if_false]
    refine wpAny_bind (wpAny_mono one (fun r s' z => ?_) fun _ _ e => e)
    obtain ⟨v, rfl, hq⟩ := z
    exact wpAny_pure hq
  · refine wpAny_bind (wpAny_pure ?_)
    simp only [Bool.false_eq_true, if_false]
    refine wpAny_bind (wpAny_mono one (fun r s' z => ?_) fun _ _ e => e)
    obtain ⟨v, rfl, hq⟩ := z
    exact wpAny_pure hq
theorem do_neO (n : Nat) (c : EqO X.K (Cl.c n).1 g) (F : FnOk X.prog X.w X.K X.mg X.base CX0 k g fd ps (spD sp)) (hr : Room (k + 1) X.A) (hb : Binds X.K fd ps []) (hK : X.K = Cl.K := by rfl) : DOp X (compareOp .NotEq) (dEqO n true X.K sp) := by
  refine ⟨fun w H m x y dx dy Q' Q hu hx hy h cc => ?_⟩
  obtain ⟨l, rfl, ok, q⟩ := h
  have hx0 := hx
  unfold Hd at hx
  obtain ⟨a, da, va, rfl, na, nda, hda, hpa, hsa⟩ := hx
  intro pins s σ v u I rv ru
  obtain rfl : v = Value.ref a := rv
  obtain ⟨ox, od, J, _⟩ := StX.insC_at (C := (Cl.c n).1) I (.inr ⟨_, _, hpa⟩)
  obtain ⟨tb, ht, hn⟩ := looks_rhs I hK ru hy ok
  obtain ⟨mm, Fq⟩ := I.fr
  have hun := hr.units
  refine rc_ne (by omega) Fq I.ok.mod.kin J ht hn c.ne c.ob c.at_ c.fn ?_
  have r2 : Vals [V.ref a, y] [Value.ref a, u] := .cons rfl (.cons ru .nil)
  refine wpAny_mono (call_own F hb hr.in1 rfl I r2 (Q := fun z H' => (∃ b, z = V.bl b ∧ Q (V.bl (!b)) H'))
    ⟨w, [.obj n l, dy], m, _, .cons hx0 (.cons hy .nil), hu, q, fun z d m' H' f' u' h' ⟨b, e, q'⟩ => by subst e; rw [Hd.bl] at h'; exact ⟨b, h', cc _ _ _ _ f' u' (Hd.bl.mpr rfl) q'⟩⟩) (fun z s' hz => ?_) fun _ _ e => e
  obtain ⟨z', H', I', rz, b, rfl, q'⟩ := hz
  obtain rfl : z = Value.bool b := rz
  exact ⟨b, rfl, .bl _, H', I', rfl, q'⟩
end
end TC
namespace TC
open PySem PySem.Spec PyProof.Rows L2
variable [Cl]
/-! ### o * n of an own class -/
structure MulO (K : PySem.W.Frag) (C f : Addr) : Prop where
  at_ : PySem.W.findIn K (.ref C) (PySem.dunder "mul") = some (some (.ref f))
  fn : PySem.W.isFn K (.ref f) = true
  sf : PySem.W.selfFirst K C = true
  rm : PySem.W.findIn K (.ref C) (PySem.dunderR "mul") = some none
def dMulO (n : Nat) (sp : DSp) : D2 := fun x y m Q => ∃ l i, x = .obj n l ∧ y = .int i ∧ sp [x, y] m fun d m' => (∃ k t, d = .obj k t) ∧ Q d m'
section
variable {X : Cx} {k : Nat} {g : Addr} {fd : FuncData} {ps : List Str} {sp : DSp}
theorem do_mulO (n : Nat) (c : MulO X.K (Cl.c n).1 g) (F : FnOk X.prog X.w X.K X.mg X.base CX0 k g fd ps (spD sp)) (hr : Room k X.A) (hb : Binds X.K fd ps []) : DOp X (binaryOp .Mult) (dMulO n sp) := by
  refine ⟨fun w H m x y dx dy Q' Q hu hx hy h cc => ?_⟩
  obtain ⟨l, i, rfl, rfl, q⟩ := h
  have hx0 := hx
  have hy0 := hy
  unfold Hd at hx
  rw [Hd.int] at hy
  obtain ⟨a, da, va, rfl, na, nda, hda, hpa, hsa⟩ := hx
  subst hy
  intro pins s σ v u I rv ru
  obtain rfl : v = Value.ref a := rv
  obtain ⟨t, rfl⟩ : ∃ t, u = Value.int i t := ru
  obtain ⟨ox, od, J, _⟩ := StX.insC_at (C := (Cl.c n).1) I (.inr ⟨_, _, hpa⟩)
  obtain ⟨mm, Fq⟩ := I.fr
  have r2 : Vals [V.ref a, V.int i] [Value.ref a, Value.int i t] := .cons rfl (.cons ⟨t, rfl⟩ .nil)
  have got := call_own F hb hr rfl I r2 (Q := fun z H' => (∃ p, z = V.ref p) ∧ Q z H')
    ⟨w, [.obj n l, .int i], m, _, .cons hx0 (.cons hy0 .nil), hu, q, fun z d m' H' f' u' h' ⟨⟨k, t, e⟩, q'⟩ => ⟨by subst e; unfold Hd at h'; obtain ⟨p, _, _, rfl, _⟩ := h'; exact ⟨p, rfl⟩, cc _ _ _ _ f' u' h' q'⟩⟩
  refine PySem.W.ksp_binT (T := "int") (fo := some (.builtin "int.__mul__")) (ro := some (.builtin "int.__rmul__")) Fq I.ok.mod.kin J rfl c.sf c.at_ c.fn c.rm (.inl rfl) (show fastLookup "int" (PySem.dunder "mul") = _ by decide +kernel) (show fastLookup "int" (PySem.dunderR "mul") = _ by decide +kernel) (sub_type (ms := [.type "int", .type "object"]) (by decide +kernel) mro_two) (wpAny_mono got (fun z s' hz => ?_) fun _ _ e => e)
  obtain ⟨z', H', I', rz, ⟨p, rfl⟩, q'⟩ := hz
  obtain rfl : z = Value.ref p := rz
  exact ⟨.ref p, H', I', rfl, q'⟩
end
/-! ### o >> x, x of another own class without the operator -/
structure NoOp (K : PySem.W.Frag) (C : Addr) (op : String) : Prop where
  mro : (PySem.W.clsIn K C).any (fun cd => cd.mro == [.ref C, .type "object"]) = true
  no1 : PySem.W.findIn K (.ref C) (PySem.dunder op) = some none
  no2 : PySem.W.findIn K (.ref C) (PySem.dunderR op) = some none
  ob1 : fastLookup "object" (PySem.dunder op) = some none
  ob2 : fastLookup "object" (PySem.dunderR op) = some none
theorem fills_no {K : PySem.W.Frag} {M : Model} {h : Heap} {C : Addr} {nm : String} (X : K.In h) (c : NoOp K C nm) : PySem.W.Looks M h (fillsNumberSlot (.ref C) nm) false := by
  obtain ⟨cd, hc, hm⟩ := PySem.W.any_some c.mro
  have hm : cd.mro = [.ref C, .type "object"] := eq_of_beq hm
  intro A Q E s k q
  unfold fillsNumberSlot
  refine wpAny_bind ((PySem.W.looks_clsIn X hc).andThen (f := fun cd => pure cd.mro) .now A _ E s k ?_)
  rw [hm, List.anyM_cons]
  refine wpAny_bind ?_
  show wpAny M A (List.anyM _ [PySem.dunder nm, dunderR nm]) _ _ _
  rw [List.anyM_cons]
  refine wpAny_bind (wpAny_bind (PySem.W.looks_findIn X c.no1 A _ E s k ?_))
  dsimp only
  refine wpAny_pure ?_
  simp only [Bool.false_eq_true, if_false]
  rw [List.anyM_cons]
  refine wpAny_bind (wpAny_bind (PySem.W.looks_findIn X c.no2 A _ E s k ?_))
  dsimp only
  refine wpAny_pure ?_
  simp only [Bool.false_eq_true, if_false, List.anyM_nil]
  refine wpAny_pure ?_
  simp only [Bool.false_eq_true, if_false]
  rw [List.anyM_cons]
  refine wpAny_bind ?_
  dsimp only
  refine wpAny_bind (m := typeLookup (.type "object") (PySem.dunder nm)) (PySem.W.looks_findIn (K := K) (t := .type "object") X c.ob1 A _ E s k ?_)
  refine wpAny_bind (PySem.W.looks_findIn (K := K) (t := .type "object") X c.ob2 A _ E s k ?_)
  refine wpAny_pure ?_
  simp only [Option.isSome_none, Bool.false_and, Bool.or_self, Bool.false_eq_true, if_false, List.anyM_nil]
  exact wpAny_pure q
theorem bin_no {prog : Program} {w : World} {A : Around} {E : Value → Shared → Prop} {s : Shared} {K : PySem.W.Frag} {x C C2 L f : Addr} {h₀ : Heap} {m : Str → Option Value} {ox : Obj} {od : Option Obj} {op : Operator} {b : Value} {Q : Value → Shared → Prop} (F : PyProof.Rows.Fr h₀ L s.heap m) (X₀ : K.In h₀) (I : PySem.W.InstAt s.heap x ox C od)
    (hb : PySem.W.Looks (model prog w) s.heap (typeOf b) (.ref C2)) (hne : (Value.ref C == Value.ref C2) = false) (hc : PySem.W.selfFirst K C = true) (hno : NoOp K C2 op.info.2)
    (hs : PySem.W.findIn K (.ref C) (PySem.dunder op.info.2) = some (some (.ref f))) (hf : PySem.W.isFn K (.ref f) = true)
    (h : wpAny (model prog w) A (call (.ref f) [.ref x, b]) (PySem.W.CmpBack Q) E s) : wpAny (model prog w) A (binaryOp op (.ref x) b) Q E s := by
  have X := X₀.keeps F.keep
  obtain ⟨cd, hcd, hm⟩ := PySem.W.any_some hc
  obtain ⟨rest, hm⟩ : ∃ rest, cd.mro = .ref C :: rest := by
    cases q : cd.mro with
    | nil => rw [q] at hm; cases hm
    | cons a r => rw [q] at hm; exact ⟨r, by rw [List.head?_cons] at hm; cases (beq_iff_eq.mp hm); rfl⟩
  have one := PySem.W.ksp_try X I hs hf h
  unfold binaryOp
  refine wpAny_holding (wpAny_bind ?_)
  unfold binaryOp1
  refine wpAny_bind (I.type.here (wpAny_bind (hb.here (wpAny_bind ((PySem.W.fills_K X hcd hm hs).here ?_)))))
  simp only [hne, Bool.false_eq_true, if_false]
  refine wpAny_bind ((fills_no X hno).here ?_)
  simp only [Bool.and_false, Bool.false_and, Bool.false_eq_true, if_false, if_true, Bool.true_and]
  refine wpAny_bind (wpAny_pure ?_)
  simp only [Bool.false_eq_true, if_false, if_true]
  refine wpAny_bind (wpAny_mono one (fun r s' hr' => ?_) fun _ _ e => e)
  obtain ⟨v, rfl, hq⟩ := hr'
  refine wpAny_pure ?_
  exact wpAny_pure hq
/-- o >> x: x of the same class, or of the other one -/
def dShO (n n2 : Nat) (sp : DSp) : D2 := fun x y m Q => ∃ l j r, x = .obj n l ∧ (j = n ∨ j = n2) ∧ y = .obj j r ∧ sp [x, y] m fun d m' => (∃ k t, d = .obj k t) ∧ Q d m'
theorem do_shO {X : Cx} {op : Operator} {k : Nat} {g : Addr} {fd : FuncData} {ps : List Str} {sp : DSp} (n n2 : Nat) (c : OpO X.K (Cl.c n).1 (PySem.dunder op.info.2) g) (hno : NoOp X.K (Cl.c n2).1 op.info.2) (hne : (Value.ref (Cl.c n).1 == Value.ref (Cl.c n2).1) = false) (F : FnOk X.prog X.w X.K X.mg X.base CX0 k g fd ps (spD sp)) (hr : Room k X.A) (hb : Binds X.K fd ps []) :
    DOp X (binaryOp op) (dShO n n2 sp) := by
  refine ⟨fun w H m x y dx dy Q' Q hu hx hy h cc => ?_⟩
  obtain ⟨l, j, r, rfl, hj, rfl, q⟩ := h
  have hx0 := hx
  have hy0 := hy
  unfold Hd at hx hy
  obtain ⟨a, da, va, rfl, na, nda, hda, hpa, hsa⟩ := hx
  obtain ⟨b, db, vb, rfl, nb, ndb, hdb, hpb, hsb⟩ := hy
  intro pins s σ v u I rv ru
  obtain rfl : v = Value.ref a := rv
  obtain rfl : u = Value.ref b := ru
  obtain ⟨ox, od, J, _⟩ := StX.insC_at (C := (Cl.c n).1) I (.inr ⟨_, _, hpa⟩)
  obtain ⟨oy, oe, J2, _⟩ := StX.insC_at (C := (Cl.c j).1) I (.inr ⟨_, _, hpb⟩)
  obtain ⟨mm, Fq⟩ := I.fr
  have got := run_fn (us := [.ref a, .ref b]) (vs := [V.ref a, V.ref b]) F hr hb .nil pass0 I (.cons rfl (.cons rfl .nil)) (Q := fun z H' => (∃ p, z = V.ref p) ∧ Q z H')
    ⟨w, [.obj n l, .obj j r], m, _, .cons hx0 (.cons hy0 .nil), hu, q, fun z d m' H' f' u' h' ⟨⟨k, t, e⟩, q'⟩ => ⟨by subst e; unfold Hd at h'; obtain ⟨p, _, _, rfl, _⟩ := h'; exact ⟨p, rfl⟩, cc _ _ _ _ f' u' h' q'⟩⟩
  have fin : wpAny (model X.prog X.w) X.A (call (.ref g) [.ref a, .ref b]) (PySem.W.CmpBack (EP X pins σ Q)) X.xe s := wpAny_mono got (fun z s' hz => by
    obtain ⟨z', H', I', rz, ⟨p, rfl⟩, q'⟩ := hz
    obtain rfl : z = Value.ref p := rz
    exact ⟨.ref p, H', I', rfl, q'⟩) fun _ _ e => e
  rcases hj with rfl | rfl
  · exact PySem.W.binop_K Fq I.ok.mod.kin J J2.type c.sf c.at_ c.fn fin
  · exact bin_no Fq I.ok.mod.kin J J2.type hne c.sf hno c.at_ c.fn fin
/-! ### tuple * int -/
theorem tuple_mul1 (l : Addr) (items : Array Value) (n : Nat) (dd : Option Addr) (sl : Array (Option Value)) (x : Int) (u : Tok) (c0 : (decide (x < -(2 ^ 63)) || decide (x ≥ 2 ^ 63)) = false) (c1 : (items.isEmpty || x == 1) = true) :
    Meets (Builtin.«tuple.__mul__» ⟨[.ref l, .int x u], []⟩) (fun _ R s => s.heap.get? l = some { cls := .type "tuple", dict := dd, data := .seq items n, slots := sl } ∧
      R (.ok (.ret (Value.ref l))) s) :=
  .of_wp fun prog w A R s h => by
    obtain ⟨hp, g, d, tk, os⟩ := s
    obtain ⟨hl, h⟩ := h
    have f1 := AutoSeq1.idx_int
    wp_walk using wpAny_loadPart' hl
    repeat (first
      | (refine wpAny_ite_false (decide_eq_false (by rw [c0]; exact Bool.false_ne_true)) ?_; wp_walk using wpAny_loadPart' hl)
      | (refine wpAny_ite_true (decide_eq_true c1) ?_; wp_walk using wpAny_loadPart' hl))
    exact ⟨_, rfl, h⟩
theorem tuple_mul0 (l : Addr) (items : Array Value) (n : Nat) (dd : Option Addr) (sl : Array (Option Value)) (x : Int) (u : Tok) (c0 : (decide (x < -(2 ^ 63)) || decide (x ≥ 2 ^ 63)) = false) (c1 : (items.isEmpty || x == 1) = false) (c2 : (decide (x ≤ 0) || items.isEmpty) = true) :
    Meets (Builtin.«tuple.__mul__» ⟨[.ref l, .int x u], []⟩) (fun _ R s => s.heap.get? l = some { cls := .type "tuple", dict := dd, data := .seq items n, slots := sl } ∧
      R (.ok (.ret (Value.ref s.heap.objs.size))) { s with heap := s.heap.push { cls := Value.type "tuple", data := Data.seq #[] }, toks := s.toks }) :=
  .of_wp fun prog w A R s h => by
    obtain ⟨hp, g, d, tk, os⟩ := s
    obtain ⟨hl, h⟩ := h
    have f1 := AutoSeq1.idx_int
    wp_walk using wpAny_loadPart' hl
    repeat (first
      | (refine wpAny_ite_false (decide_eq_false (by rw [c0]; exact Bool.false_ne_true)) ?_; wp_walk using wpAny_loadPart' hl)
      | (refine wpAny_ite_false (decide_eq_false (by rw [c1]; exact Bool.false_ne_true)) ?_; wp_walk using wpAny_loadPart' hl)
      | (refine wpAny_ite_true (decide_eq_true c2) ?_; wp_walk using wpAny_loadPart' hl))
    exact ⟨_, rfl, h⟩
section
variable {X : Cx}
def rRepA (K : PySem.W.Frag) : R2 := fun x y H Q => ∃ l k xs, x = .ref l ∧ y = .int k ∧ SqT K H l xs ∧ 0 ≤ k ∧ k ≤ 1000 ∧ xs.length ≤ 1000 ∧ (xs = [] ∨ k = 1 → Q (.ref l) H) ∧ ∀ p, H p = none → Q (.ref p) (upd H p (.tup (List.replicate k.toNat xs).flatten))
theorem op_repA : OpR X (binaryOp .Mult) (rRepA X.K) := by
  intro pins s σ H x y v u Q I rx ry h
  obtain ⟨l, k, xs, rfl, rfl, hT, h1, h2, hz, qs, q⟩ := h
  by_cases hbig : xs ≠ [] ∧ 2 ≤ k
  · exact op_repT pins s σ H _ _ v u Q I rx ry ⟨l, k, xs, rfl, rfl, hT, hbig.1, hbig.2, h2, hz, q⟩
  cases rx
  obtain ⟨t, rfl⟩ := ry
  obtain ⟨its, r, ⟨⟨cls, dd, data, sl⟩, ho, hc, n, hd⟩, hs⟩ := I.tuple hT
  simp only at hc hd
  subst hc hd
  have hle : its.length = xs.length := r.length.symm
  have c0 : (decide (k < -(2 ^ 63)) || decide (k ≥ 2 ^ 63)) = false := by
    rw [decide_eq_false (by omega), decide_eq_false (by omega)] <;> rfl
  by_cases hsame : xs = [] ∨ k = 1
  · have c1 : (its.toArray.isEmpty || k == 1) = true := by
      rcases hsame with e | e
      · rw [e] at hle
        rw [List.eq_nil_of_length_eq_zero hle]
        rfl
      · rw [e]; simp
    exact wpAny_binaryOp_repeat_ref (T := "tuple") (U := "int") (by decide) ⟨_, ho, rfl⟩ (fun s' => typeIs_int s' k t) noFill_tuple_mul F.fills_int_mul F.slot_int_rmul repeat_tuple F.slot_int_index.lookup
      (call_meets F.slot_int_rmul (typeIs_int s k t) F.entry_int_rmul (F.args_int_rmul_2 _ _) (int_rmul_tuple k t l its.toArray n dd sl)
        ⟨ho, rfl, ⟨_, ho, rfl⟩, call_meets F.slot_tuple_mul ⟨_, ho, rfl⟩ F.entry_tuple_mul (F.args_tuple_mul_2 _ _) (tuple_mul1 l its.toArray n dd sl k t c0 c1) ⟨ho, ⟨.ref l, H, I, rfl, qs hsame⟩⟩⟩)
  · have hx : xs ≠ [] := fun e => hsame (.inl e)
    have hk : k ≤ 0 := by
      have : ¬ k = 1 := fun e => hsame (.inr e)
      have : ¬ 2 ≤ k := fun e => hbig ⟨hx, e⟩
      omega
    have hn : its ≠ [] := fun e => hx (by
      rw [e] at hle
      exact List.eq_nil_of_length_eq_zero hle.symm)
    have hi : its.toArray.isEmpty = false := by
      cases its with
      | nil => exact absurd rfl hn
      | cons a b => rfl
    have c1 : (its.toArray.isEmpty || k == 1) = false := by
      rw [hi, Bool.false_or]
      exact beq_eq_false_iff_ne.mpr (by omega)
    have c2 : (decide (k ≤ 0) || its.toArray.isEmpty) = true := by
      rw [decide_eq_true hk]; rfl
    refine wpAny_binaryOp_repeat_ref (T := "tuple") (U := "int") (by decide) ⟨_, ho, rfl⟩ (fun s' => typeIs_int s' k t) noFill_tuple_mul F.fills_int_mul F.slot_int_rmul repeat_tuple F.slot_int_index.lookup
      (call_meets F.slot_int_rmul (typeIs_int s k t) F.entry_int_rmul (F.args_int_rmul_2 _ _) (int_rmul_tuple k t l its.toArray n dd sl)
        ⟨ho, rfl, ⟨_, ho, rfl⟩, call_meets F.slot_tuple_mul ⟨_, ho, rfl⟩ F.entry_tuple_mul (F.args_tuple_mul_2 _ _) (tuple_mul0 l its.toArray n dd sl k t c0 c1 c2) ⟨ho, ?_⟩⟩)
    have e0 : (List.replicate k.toNat xs).flatten = [] := by
      rw [show k.toNat = 0 by omega]; rfl
    rw [e0] at q
    refine ⟨.ref s.heap.objs.size, _, I.laid (t' := s.toks) (o := .tup []) (fun b ob q => Heap.get?_push_of_some _ q) (Nat.le_refl _) ?_, rfl, q _ (I.hok.fresh (Nat.le_refl _))⟩
    exact ⟨Nat.zero_le _, [], .nil, IsTup.new _ _⟩
def dmulT : D2 := fun x y m Q => match x, y with
  | .tup l, .int k => 0 ≤ k ∧ k ≤ 1000 ∧ l.length ≤ 1000 ∧ Q (.tup (List.replicate k.toNat l).flatten) m
  | x, y => dmul x y m Q
theorem do_mulT (hK : X.K = Cl.K := by rfl) : DOp X (binaryOp .Mult) dmulT := by
  refine ⟨fun w H m x y dx dy Q' Q hu hx hy h c => ?_⟩
  unfold dmulT at h
  split at h
  · have hx0 := hx
    rw [Hd.int] at hy
    rw [Hd.tup] at hx
    obtain ⟨a, vs, rfl, ha, hs⟩ := hx
    subst hy
    obtain ⟨k0, k1, k2, q⟩ := h
    refine wpOp_of op_repA ⟨_, _, _, rfl, rfl, ha.sq hK, k0, k1, by rw [hs.len]; exact k2, fun e => ?_, fun p hp => ?_⟩
    · rename_i l k
      have e2 : (List.replicate k.toNat l).flatten = l := by
        rcases e with e | e
        · rw [e] at hs
          have := hs.len
          rw [List.eq_nil_of_length_eq_zero this.symm]
          simp
        · rw [e]; simp
      rw [e2] at q
      exact c _ _ _ _ (Fr.refl _ _) hu hx0 q
    · exact c _ _ _ _ (Fr.upd hp) (hu.upd hp) (new_tup hu (hs.rep _) hp) q
  · exact do_mulA.run w H m x y _ _ Q' Q hu hx hy h c
end
/-! ### cells as lists in a test -/
def dtRel (t : DT) : DT := fun env m Q => relNB env = true ∧ t (relE env) m Q
theorem dt_rel {X : Cx} {e : Expr} {te : DT} (h : Dt X e te) : Dt X e (dtRel te) := by
  refine ⟨fun w σ H env m Q' Q sl hu ⟨rn, q⟩ c => ?_⟩
  have rn := relNB_ok rn
  have hp : ∀ p ∈ cellsE env, (∃ vs, H p = some (.lst vs)) ∧ w.u ≠ some p := fun p hp => by
    obtain ⟨j, l, ej⟩ := cellsE_of hp
    obtain ⟨v, _, hv⟩ := sl.2 j _ ej
    rw [Hd.cell] at hv
    obtain ⟨_, _, nu, vs, hv, _⟩ := hv
    exact ⟨⟨vs, hv⟩, nu⟩
  have ls := w.cut_less (cellsE env)
  refine h.run (w.cut (cellsE env)) σ H (relE env) m _ _ ⟨by rw [relE, List.length_map]; exact sl.1, fun j d ej => ?_⟩ (hu.lessW ls) q fun b m' H' f' u' q' => ?_
  · rw [relE, List.getElem?_map] at ej
    cases e2 : env[j]? with
    | none => rw [e2] at ej; cases ej
    | some o =>
      cases o with
      | none => rw [e2] at ej; cases ej
      | some d2 =>
        rw [e2] at ej
        cases ej
        obtain ⟨v, e1, h1⟩ := sl.2 j _ e2
        refine ⟨v, e1, ?_⟩
        rcases rn.at e2 with n | ⟨p, l, rfl, n⟩
        · rw [rel_noc n]
          exact h1.less ls n
        · rw [Hd.cell] at h1
          obtain ⟨rfl, mc, nu, vs, hv, hvs⟩ := h1
          refine Hd.lst.mpr ⟨p, vs, rfl, fun z => ?_, hv, hvs.less ls n⟩
          rcases z with z | z
          · exact nu z
          · have := (List.mem_filter.mp z).2
            rw [Bool.not_eq_true', decide_eq_false_iff_not] at this
            exact this (cellsE_mem e2)
  · have fr : Fr w H H' := fun b o n e => f' b o n e
    refine c b m' H' fr ⟨fun a e => u'.1 a e, fun a ha => ?_⟩ q'
    obtain ⟨o, e⟩ := hu.2 a ha
    by_cases hm : w.u = some a
    · obtain ⟨x, y, z, e', _⟩ := u'.1 a hm
      exact ⟨_, e'⟩
    · exact ⟨o, fr a o hm e⟩
end TC
namespace TC
open PySem PySem.Spec PyProof.Rows L2
variable [Cl]
/-! ### tables laid anew whose every slot is met -/
def Meets (m : Nat) : Prop := ∀ (x : Int) (j : Nat), j ≤ m → ∃ n, n ≤ m + 12 ∧ runI m (SetTable.bits x) n = j
theorem meets_of {m : Nat} (o : MaskOk m) : Meets m := fun x _ hj => run_meets o x hj
theorem goes15 : ∀ i, i < 16 → ∀ j, j < 16 → ∃ k, k < 16 ∧ lcgI 15 i k = j := by decide +kernel
theorem meets15 : Meets 15 := fun x j hj => by
  obtain ⟨k, hk, e⟩ := goes15 _ (Nat.lt_succ_of_le (runI_le 15 (SetTable.bits x) 12)) j (Nat.lt_succ_of_le hj)
  exact ⟨12 + k, by omega, (runI_tail (bits_lt x) k).trans e⟩
/-- a run that comes by a free slot ends at one -/
theorem free_gets {m : Nat} (ow : Array (Option Nat)) : ∀ (n f i b : Nat), n < f → i ≤ m → oAt ow (itL m i b n).1 = none → ∃ j, SetTable.layClean.free m ow f i b = some j ∧ j ≤ m ∧ oAt ow j = none
  | n, 0, i, b, hf, _, _ => absurd hf (Nat.not_lt_zero n)
  | n, f + 1, i, b, hf, hi, hn => by
    have bd := runEnd_bd hi
    rw [free_succ]
    cases q : (List.range (SetTable.runEnd m i + 1 - i)).find? fun k => (oAt ow (i + k)).isNone with
    | some k =>
      have k1 := List.mem_range.mp (List.mem_of_find?_eq_some q)
      have k2 := List.find?_some q
      refine ⟨i + k, rfl, by omega, ?_⟩
      exact Option.isNone_iff_eq_none.mp k2
    | none =>
      have no := List.find?_eq_none.mp q
      cases n with
      | zero =>
        have := no 0 (List.mem_range.mpr (by omega))
        rw [Nat.add_zero] at this
        have hn : oAt ow i = none := hn
        rw [hn] at this
        exact absurd rfl this
      | succ n => exact free_gets ow n f _ _ (by omega) (leap_le m i b) hn
structure Sit (m n : Nat) (ow : Array (Option Nat)) : Prop where
  sz : ow.size = m + 1
  all : ∀ k, k < n → ∃ j, j ≤ m ∧ oAt ow j = some k
  few : ∃ ps : List Nat, ps.length = n ∧ ∀ j, j ≤ m → oAt ow j ≠ none → j ∈ ps
theorem Sit.more {m n : Nat} {ow : Array (Option Nat)} (M : Meets m) (S : Sit m n ow) (hn : n ≤ m) (x : Int) :
    ∃ j, SetTable.layClean.free m ow (SetTable.turns m) (SetTable.bits x % (m + 1)) (SetTable.bits x) = some j ∧ Sit m (n + 1) (ow.setIfInBounds j (some n)) := by
  obtain ⟨ps, lp, pp⟩ := S.few
  obtain ⟨u, hu, nu⟩ := st_missing ps (m + 1) (by omega)
  have fu : oAt ow u = none := by
    cases z : oAt ow u with
    | none => rfl
    | some k => exact absurd (pp u (by omega) (by rw [z]; exact fun e => nomatch e)) nu
  obtain ⟨t, ht, et⟩ := M x u (by omega)
  obtain ⟨j, ej, jm, fj⟩ := free_gets ow t (SetTable.turns m) _ (SetTable.bits x) (by unfold SetTable.turns; omega) (Nat.le_of_lt_succ (Nat.mod_lt _ (Nat.succ_pos m))) (by rw [itL_run]; show oAt ow (runI m (SetTable.bits x) t) = none; rw [et]; exact fu)
  have js : j < ow.size := by rw [S.sz]; omega
  refine ⟨j, ej, by rw [Array.size_setIfInBounds]; exact S.sz, fun k hk => ?_, j :: ps, by rw [List.length_cons, lp], fun i hi ne => ?_⟩
  · by_cases c : k = n
    · exact ⟨j, jm, by rw [oAt_set_self _ js, c]⟩
    · obtain ⟨i, hi, e⟩ := S.all k (by omega)
      refine ⟨i, hi, ?_⟩
      rw [oAt_set_ne _ fun z => ?_]
      · exact e
      · rw [z, fj] at e; cases e
  · by_cases c : i = j
    · rw [c]; exact List.mem_cons_self
    · rw [oAt_set_ne _ c] at ne
      exact List.mem_cons_of_mem _ (pp i hi ne)
theorem lay_gets {m : Nat} (M : Meets m) : ∀ (rest : List Int) (n : Nat) (ow : Array (Option Nat)), Sit m n ow → n + rest.length ≤ m → ∃ o2, rest.foldl (stepF m) (some (ow, n)) = some (o2, n + rest.length) ∧ Sit m (n + rest.length) o2
  | [], n, ow, S, _ => ⟨ow, rfl, S⟩
  | x :: rest, n, ow, S, hl => by
    rw [List.length_cons] at hl ⊢
    obtain ⟨j, e, S2⟩ := S.more M (by omega) x
    obtain ⟨o2, e2, S3⟩ := lay_gets M rest (n + 1) _ S2 (by omega)
    have en : n + 1 + rest.length = n + (rest.length + 1) := by omega
    rw [en] at e2 S3
    exact ⟨o2, by rw [List.foldl_cons, stepF_some e]; exact e2, S3⟩
theorem clean_gets {m : Nat} (M : Meets m) {hs : Array Int} (hn : hs.size ≤ m) : ∃ ow, SetTable.layClean m hs = some ow ∧ Sit m hs.size ow := by
  have S0 : Sit m 0 (Array.replicate (m + 1) none) := ⟨by simp, fun k hk => absurd hk (Nat.not_lt_zero k), [], rfl, fun j hj ne => absurd (oAt_init hj) ne⟩
  have hl : hs.toList.length = hs.size := rfl
  obtain ⟨o2, e, S⟩ := lay_gets M hs.toList 0 _ S0 (by rw [hl]; omega)
  rw [Nat.zero_add, hl] at e S
  exact ⟨o2, by rw [layClean_eq, e]; rfl, S⟩
theorem laid_gets {m fi mo : Nat} {ld pl : Bool} (M : Meets m) {hs : Array Int} (hn : hs.size ≤ m) :
    ∃ t' order, SetTable.laid m fi mo ld pl hs = some (t', order) ∧ order.toList.Perm (List.range hs.size) ∧ t'.mask = m ∧ t'.dummies = #[] ∧ t'.place.size = hs.size := by
  obtain ⟨ow, e, S⟩ := clean_gets M hn
  have r := (ris_live (fun j => ow.getD j none) (List.range (m + 1)) List.pairwise_lt_range).1
  have nd : ((liveOf m ow).map (·.1)).Nodup := List.Pairwise.imp (fun {a b} (h : a < b) => Nat.ne_of_lt h) r
  obtain ⟨ps, lp, pp⟩ := S.few
  have up : ((liveOf m ow).map (·.1)).length ≤ ps.length := nat_nodup_len _ ps nd fun y hy => by
    obtain ⟨⟨j, k⟩, hq, rfl⟩ := List.mem_map.mp hy
    obtain ⟨h1, h2⟩ := (mem_live S.sz).1 hq
    exact pp j h1 (by rw [h2]; exact fun z => nomatch z)
  have has : ∀ k, k < hs.size → k ∈ (liveOf m ow).map (·.2) := fun k hk => by
    obtain ⟨j, h1, h2⟩ := S.all k hk
    exact List.mem_map.mpr ⟨(j, k), (mem_live S.sz).2 ⟨h1, h2⟩, rfl⟩
  have dn : (List.range hs.size).length ≤ ((liveOf m ow).map (·.2)).length := nat_nodup_len _ _ List.nodup_range fun k hk => has k (List.mem_range.mp hk)
  rw [List.length_map, lp] at up
  rw [List.length_map, List.length_range] at dn
  have ll : (liveOf m ow).length = hs.size := by omega
  refine ⟨{ mask := m, place := ((liveOf m ow).map (·.1)).toArray, dummies := #[], finger := fi, led := ld, moves := mo, plain := pl }, ((liveOf m ow).map (·.2)).toArray, ?_, ?_, rfl, rfl, ?_⟩
  · show (SetTable.layClean m hs).bind _ = _
    rw [e]; rfl
  · exact perm_range hs.size _ (by rw [List.length_map]; exact ll) has
  · show ((liveOf m ow).map (·.1)).toArray.size = hs.size
    rw [List.size_toArray, List.length_map, ll]
end TC
namespace TC
open PySem PySem.Spec PyProof.Rows L2
variable [Cl]
/-! ### the difference of two sets of texts -/
section
variable {prog : Program} {w : World} {A : Around} {E : Value → Shared → Prop} {s : Shared}
theorem forIn_arr {M : Model} {A : Around} {E : Value → Shared → Prop} {s : Shared} {α β : Type} (f : α → β → Sem (ForInStep β)) (I : List α → β → Shared → Prop) (Q : β → Shared → Prop)
    (turn : ∀ x rest b s, I (x :: rest) b s → wpAny M A (f x b) (fun r s' => match r with | .yield b' => I rest b' s' | .done b' => Q b' s') E s)
    (fin : ∀ b s, I [] b s → Q b s) (xs : Array α) (b : β) (h : I xs.toList b s) : wpAny M A (forIn xs b f) Q E s := by
  rw [← Array.forIn_toList]
  exact wpAny_forIn_list f I Q turn fin _ b h
theorem quiet_ok {Q : Bool → Shared → Prop} (sets : List Addr) (h : ∀ a ∈ sets, ∃ S n, s.heap.SetOf (PySem.strKind prog w) a S n) (q : Q true s) : wpAny (model prog w) A (setsQuiet sets) Q E s := by
  unfold setsQuiet
  refine wpAny_bind (wpAny_forIn_list _ (fun rest b s' => b.1 = none ∧ s' = s ∧ ∀ a ∈ rest, a ∈ sets) _ ?_ ?_ sets _ ⟨rfl, rfl, fun a h => h⟩)
  · rintro a rest b s' ⟨hb, rfl, hr⟩
    obtain ⟨S, n, o, es, ep, t, ho, hex, hd, hel, _, _, hf, _⟩ := h a (hr a (List.mem_cons_self ..))
    refine wpAny_bind (wpAny_setEntries_of ho hd hf ?_)
    refine wpAny_bind (forIn_arr _ (fun r2 b2 s2 => b2.1 = none ∧ s2 = s' ∧ ElemsOf (PySem.strKind prog w) r2) _ ?_ ?_ es _ ⟨rfl, rfl, hel⟩)
    · rintro ⟨hh, x⟩ r2 b2 s2 ⟨hb2, rfl, he⟩
      have sc := he.head.2
      cases x with
      | ref a => cases sc
      | _ => exact wpAny_pure ⟨rfl, rfl, he.tail⟩
    · rintro ⟨c1, c2⟩ s2 ⟨hc, rfl, _⟩
      subst hc
      exact wpAny_pure ⟨rfl, rfl, fun a ha => hr a (List.mem_cons_of_mem _ ha)⟩
  · rintro ⟨b1, b2⟩ s' ⟨hb, rfl, _⟩
    subst hb
    exact wpAny_pure q
/-- the members of the set at a, in some order, to be walked while the set at r is filled -/
theorem unseen_ok {a o r : Addr} {ob : Obj} {es : Array (Int × Value)} {ep : Nat} {t : SetTable} {S2 : Str → Bool} {n2 : Nat} {Q : Array (Int × Value) → Shared → Prop} (ho : s.heap.get? a = some ob) (hex : ob.ExactSet) (hd : ob.data = .set es ep t) (hel : ElemsOf (PySem.strKind prog w) es.toList) (hb : es.size < scanBound) (hf : t.fits es.size = true)
    (h2 : s.heap.SetOf (PySem.strKind prog w) o S2 n2) (hr : s.heap.SetOf (PySem.strKind prog w) r (fun _ => false) 0)
    (fin : ∀ (es' : Array (Int × Value)) (h' : Heap), es'.toList.Perm es.toList → Heap.SameBut r s.heap h' → h'.SetOf (PySem.strKind prog w) r (fun _ => false) 0 → Q es' { s with heap := h' }) : wpAny (model prog w) A (setWalkUnseen a [o, r] (some r)) Q E s := by
  have ha : ∃ S n, s.heap.SetOf (PySem.strKind prog w) a S n := ⟨fun k => decide (∃ e ∈ es.toList, (PySem.strKind prog w).is k e.2 = true), es.size, ob, es, ep, t, ho, hex, hd, hel, fun k => by simp only [decide_eq_true_eq], hb, hf, rfl⟩
  have same : Q es s := fin es s.heap (List.Perm.refl _) (Heap.SameBut.refl r s.heap) hr
  unfold setWalkUnseen
  refine wpAny_bind (wpAny_setState_of ho hd hf (wpAny_bind (wpAny_byText ?_)))
  dsimp only
  have plain_walk : (w.params.followText "set-order" = true ∨ (t.led && t.plain) = true ∨ es.size ≤ 1) → wpAny (model prog w) A (setWalk a) Q E s := fun c => by
    unfold setWalk
    refine wpAny_bind (wpAny_setState_of ho hd hf (wpAny_bind (wpAny_byText ?_)))
    by_cases cb : w.params.followText "set-order" = true
    · rw [cb]
      simp only [↓reduceIte]
      refine wpAny_bind (wpAny_askSetting ?_)
      exact wpAny_pure (fin _ s.heap (pick_perm _ es) (Heap.SameBut.refl r s.heap) hr)
    · rw [Bool.eq_false_iff.mpr cb]
      simp only [Bool.false_eq_true, ↓reduceIte]
      have c2 : (t.led && t.plain) = true ∨ es.size ≤ 1 := c.resolve_left cb
      refine wp_if_neg (c := (!t.plain && decide (es.size > 1)) = true) ?_ ?_
      · rcases c2 with c | c
        · rw [Bool.and_eq_true] at c
          simp [c.2]
        · simp; omega
      refine wpAny_bind ?_
      refine wp_if_neg (c := (!t.led && decide (es.size > 1)) = true) ?_ (wpAny_pure ?_)
      · rcases c2 with c | c
        · rw [Bool.and_eq_true] at c
          simp [c.1]
        · simp; omega
      exact wpAny_pure same
  split
  · rename_i c
    simp only [Bool.or_eq_true, decide_eq_true_eq] at c
    exact plain_walk (by rcases c with (c | c) | c <;> simp [c])
  · rename_i c
    refine wpAny_bind (quiet_ok _ (fun b hb => ?_) ?_)
    · simp only [List.mem_cons, List.not_mem_nil, or_false] at hb
      rcases hb with rfl | rfl | rfl
      · exact ha
      · exact ⟨_, _, h2⟩
      · exact ⟨_, _, hr⟩
    simp only [Bool.not_true, Bool.false_eq_true, ↓reduceIte]
    refine wpAny_bind (wpAny_rule ?_)
    obtain ⟨o3, es3, ep3, t3, ho3, hex3, hd3, hel3, hm3, hb3, hf3, hn3⟩ := id hr
    refine wpAny_bind (wpAny_setState_of ho3 hd3 hf3 ?_)
    dsimp only
    split
    · have sz : es3.size = 0 := hn3
      refine wpAny_bind (wpAny_storeSet_of ho3 hd3 ?_ (fits_of_scanBound hb3))
      have at1 := store_at (es' := es3) (t' := { t3 with led := t3.led && t.led, plain := t3.plain && t.plain }) ho3 hd3
      refine wpAny_pure (fin es _ (List.Perm.refl _) (Heap.SameBut.update s.heap r _) ?_)
      exact ⟨_, es3, _, _, at1, hex3, rfl, hel3, hm3, hb3, hf3, hn3⟩
    · exact wpAny_pure same
set_option maxHeartbeats 2000000 in
/-- what is walked goes into r, where the other set has it not -/
theorem fill_ok {a o r : Addr} {ob : Obj} {es : Array (Int × Value)} {ep : Nat} {t : SetTable} {S2 : Str → Bool} {n2 : Nat} {id : String} {body : Int × Value → PUnit → Sem (ForInStep PUnit)} {Q : PUnit → Shared → Prop}
    (hbody : ∀ p u, body p u = (do
      holding [p.2] do
        let there ← pure (← setFind o p.2 p.1).isSome
        if !there then
          let _ ← setAddHashed r p.2 p.1
      Builtin.Frozenset.unchanged id a ep
      pure (ForInStep.yield PUnit.unit)))
    (ha : s.heap.get? a = some ob) (hd : ob.data = .set es ep t) (hf : t.fits es.size = true) (h2 : s.heap.SetOf (PySem.strKind prog w) o S2 n2) (hr : s.heap.SetOf (PySem.strKind prog w) r (fun _ => false) 0) (har : a ≠ r) (hor : o ≠ r)
    (es' : Array (Int × Value)) (hok : ∀ p ∈ es'.toList, OkZ w p) (hnd : (es'.toList.map memZ).Nodup) (hn : es'.size < 1000)
    (fin : ∀ (h' : Heap) (tk : Nat) (M : Str → Bool), Heap.SameBut r s.heap h' → h'.SetOf (PySem.strKind prog w) r M ((es'.toList.map memZ).filter (fun z => !S2 z)).length → Q () { s with heap := h', toks := tk }) :
    wpAny (model prog w) A (forIn es' PUnit.unit body) Q E s := by
  have : body = fun p u => _ := funext fun p => funext fun u => hbody p u
  rw [this]
  refine forIn_arr _ (fun rest b s' => ∃ (h' : Heap) (tk : Nat) (M : Str → Bool) (k : Nat), s' = { s with heap := h', toks := tk } ∧ Heap.SameBut r s.heap h' ∧ h'.SetOf (PySem.strKind prog w) r M k ∧ (∀ z, M z = true → z ∉ rest.map memZ) ∧
    k + ((rest.map memZ).filter (fun z => !S2 z)).length = ((es'.toList.map memZ).filter (fun z => !S2 z)).length ∧ (∀ p ∈ rest, OkZ w p) ∧ (rest.map memZ).Nodup) _ ?_ ?_ es' _ ⟨s.heap, s.toks, _, 0, rfl, Heap.SameBut.refl r s.heap, hr, fun z (h : false = true) => absurd h Bool.false_ne_true, by omega, hok, hnd⟩
  · rintro ⟨hh, x⟩ rest b s' ⟨h', tk, M, k, rfl, sb, hS, hM, hk, ho, hn2⟩
    obtain ⟨z, tk2, e1, e2⟩ := ho _ (List.mem_cons_self ..)
    dsimp only at e1 e2
    subst e1; subst e2
    have key : (PySem.strKind prog w).is z (.str z tk2) = true := strKind_is _ _ _ _
    have h2' : h'.SetOf (PySem.strKind prog w) o S2 n2 := by
      obtain ⟨o3, es3, ep3, t3, ho3, more⟩ := h2
      exact ⟨o3, es3, ep3, t3, (sb.2 o hor).trans ho3, more⟩
    have ha' : h'.get? a = some ob := (sb.2 a har).trans ha
    have hc := List.nodup_cons.mp hn2
    have nz : M z = false := by
      cases e : M z with
      | false => rfl
      | true => exact absurd (List.mem_cons_self ..) (hM z e)
    have ek : ((((hashStr w z, Value.str z tk2) :: rest).map memZ).filter (fun z => !S2 z)).length = (if S2 z = true then 0 else 1) + ((rest.map memZ).filter (fun z => !S2 z)).length := by
      show ((z :: rest.map memZ).filter (fun z => !S2 z)).length = _
      rw [List.filter_cons]
      cases S2 z
      · simp; omega
      · simp
    rw [ek] at hk
    have eh : hashStr w z = (PySem.strKind prog w).hash z := rfl
    dsimp only
    rw [eh]
    refine wpAny_bind (wpAny_holding ?_)
    refine wpAny_bind (wpAny_setFind_of (s := { s with heap := h', toks := tk }) key rfl h2' fun r0 hr0 => ?_)
    refine wpAny_bind (wpAny_pure ?_)
    rw [hr0]
    have tail : ∀ (R : ForInStep PUnit → Shared → Prop) (hR : ∀ (h2 : Heap) (M2 : Str → Bool) (k2 : Nat), Heap.SameBut r s.heap h2 → h2.SetOf (PySem.strKind prog w) r M2 k2 → (∀ y, M2 y = true → y ∉ rest.map memZ) → k2 + ((rest.map memZ).filter (fun z => !S2 z)).length = ((es'.toList.map memZ).filter (fun z => !S2 z)).length → R (.yield PUnit.unit) { s with heap := h2, toks := tk })
        (h2 : Heap) (M2 : Str → Bool) (k2 : Nat), Heap.SameBut r h' h2 → h2.SetOf (PySem.strKind prog w) r M2 k2 → (∀ y, M2 y = true → y ∉ rest.map memZ) → k2 + ((rest.map memZ).filter (fun z => !S2 z)).length = ((es'.toList.map memZ).filter (fun z => !S2 z)).length →
        wpAny (model prog w) A (do
          Builtin.Frozenset.unchanged id a ep
          pure (ForInStep.yield PUnit.unit)) R E { s with heap := h2, toks := tk } := fun R hR h2 M2 k2 sb2 hS2 hM2 hk2 => by
      unfold Builtin.Frozenset.unchanged
      refine wpAny_bind (wpAny_bind (wpAny_setEpoch_of (s := { s with heap := h2, toks := tk }) ((sb2.2 a har).trans ha') hd hf ?_))
      rw [show (ep != ep) = false by simp]
      simp only [Bool.false_eq_true, ↓reduceIte]
      exact wpAny_pure (wpAny_pure (hR h2 M2 k2 (sb.trans sb2) hS2 hM2 hk2))
    have hRR : ∀ (h2 : Heap) (M2 : Str → Bool) (k2 : Nat), Heap.SameBut r s.heap h2 → h2.SetOf (PySem.strKind prog w) r M2 k2 → (∀ y, M2 y = true → y ∉ rest.map memZ) → k2 + ((rest.map memZ).filter (fun z => !S2 z)).length = ((es'.toList.map memZ).filter (fun z => !S2 z)).length → ∃ h' tk' M k, ({ s with heap := h2, toks := tk } : Shared) = { s with heap := h', toks := tk' } ∧ Heap.SameBut r s.heap h' ∧ h'.SetOf (PySem.strKind prog w) r M k ∧ (∀ z, M z = true → z ∉ rest.map memZ) ∧
    k + ((rest.map memZ).filter (fun z => !S2 z)).length = ((es'.toList.map memZ).filter (fun z => !S2 z)).length ∧ (∀ p ∈ rest, OkZ w p) ∧ (rest.map memZ).Nodup := fun h2 M2 k2 a1 a2 a3 a4 => ⟨h2, tk, M2, k2, rfl, a1, a2, a3, a4, fun p hp => ho p (List.mem_cons_of_mem _ hp), hc.2⟩
    cases hz : S2 z with
    | true =>
      rw [hz] at hk
      simp only [Bool.not_true, Bool.false_eq_true, ↓reduceIte]
      refine wpAny_pure (tail _ hRR h' M k (Heap.SameBut.refl r h') hS (fun y hy hm => hM y hy (List.mem_cons_of_mem _ hm)) (by simpa using hk))
    | false =>
      rw [hz] at hk
      simp only [Bool.not_false, ↓reduceIte]
      refine wpAny_bind (wpAny_setAddHashed_of (knd := PySem.strKind prog w) (s := { s with heap := h', toks := tk }) key rfl hS ?_ fun h3 sb3 hS3 => ?_)
      · have : ((es'.toList.map memZ).filter (fun z => !S2 z)).length ≤ es'.size := by
          have := List.length_filter_le (fun z => !S2 z) (es'.toList.map memZ)
          rw [List.length_map, Array.length_toList] at this
          exact this
        unfold scanBound; omega
      · rw [nz] at hS3
        refine wpAny_pure (tail _ hRR h3 _ _ sb3 hS3 (fun y hy hm => ?_) (by simp only [Bool.false_eq_true, ↓reduceIte] at hk ⊢; omega))
        rcases (Bool.or_eq_true _ _).mp hy with hy | hy
        · exact hM y hy (List.mem_cons_of_mem _ hm)
        · rw [of_decide_eq_true hy] at hm
          exact hc.1 hm
  · rintro b s' ⟨h', tk, M, k, rfl, sb, hS, hM, hk, ho, hn2⟩
    have e : k = ((es'.toList.map memZ).filter (fun z => !S2 z)).length := by simpa using hk
    rw [e] at hS
    exact fin h' tk M sb hS
theorem anyset {b : Addr} {Q : Bool → Shared → Prop} (hT : s.TypeIs (.ref b) "set") (q : Q true s) : wpAny (model prog w) A (Builtin.Frozenset.isAnySet (.ref b)) Q E s := by
  have own := sub_set_self
  unfold Builtin.Frozenset.isAnySet
  repeat (any_goals (first | assumption | wp_step))
theorem base_of {b : Addr} {Q : Value → Shared → Prop} (hT : s.TypeIs (.ref b) "set") (q : Q (.type "set") s) : wpAny (model prog w) A (Builtin.Frozenset.baseOf b) Q E s := by
  have own := sub_set_self
  unfold Builtin.Frozenset.baseOf
  repeat (any_goals (first | assumption | wp_step))
theorem size_of {b : Addr} {S : Str → Bool} {n : Nat} {Q : Nat → Shared → Prop} (h : s.heap.SetOf (PySem.strKind prog w) b S n) (q : Q n s) : wpAny (model prog w) A (Builtin.Frozenset.sizeOf b) Q E s := by
  obtain ⟨o, es, ep, t, ho, hex, hd, _, _, _, hf, hn⟩ := h
  unfold Builtin.Frozenset.sizeOf
  refine wpAny_bind (wpAny_setEntries_of ho hd hf (wpAny_pure ?_))
  rw [hn]; exact q
theorem set_type {b : Addr} {S : Str → Bool} {n : Nat} (h : s.heap.SetOf (PySem.strKind prog w) b S n) : s.TypeIs (.ref b) "set" := by
  obtain ⟨o, es, ep, t, ho, hex, _⟩ := h
  exact ⟨o, ho, hex.1⟩
theorem okZ_of {l : List (Int × Value)} (h : ElemsOf (PySem.strKind prog w) l) : ∀ p ∈ l, OkZ w p := fun p hp => by
  obtain ⟨⟨k, h1, h2⟩, _⟩ := h p hp
  obtain ⟨hh, v⟩ := p
  obtain ⟨tk, e⟩ := Value.isStrOf_shape h1
  exact ⟨k, tk, e, h2⟩
theorem keys_perm : ∀ (xs ks : List Str), xs.Nodup → (∀ x ∈ xs, x ∈ ks) → ks.length = xs.length → ks.Perm xs
  | [], ks, _, _, h => by rw [List.eq_nil_of_length_eq_zero h]
  | x :: xs, ks, nd, hm, hl => by
    obtain ⟨n1, n2⟩ := List.nodup_cons.mp nd
    have hx := hm x (List.mem_cons_self ..)
    have le : (ks.erase x).length = xs.length := by rw [List.length_erase_of_mem hx, hl]; rfl
    exact (List.perm_cons_erase hx).trans ((keys_perm xs (ks.erase x) n2 (fun y hy => (List.mem_erase_of_ne (fun e => n1 (by rw [← e]; exact hy))).mpr (hm y (List.mem_cons_of_mem _ hy))) le).cons x)
theorem order_perm {α : Type} {es : Array α} {order : Array Nat} (h : order.toList.Perm (List.range es.size)) : (order.filterMap (es[·]?)).toList.Perm es.toList := by
  rw [Array.toList_filterMap]
  have e : (List.range es.size).filterMap (fun i => es[i]?) = es.toList := filterMap_getElem?_range es
  exact (h.filterMap _).trans (by rw [e])
section
variable {a : Addr} {es : Array (Int × Value)} {t : SetTable} {r : Addr} {obr : Obj} {epr : Nat} {tr : SetTable} {Q : Unit → Shared → Prop}
/-- the members of the other set, laid into an empty one -/
theorem merge_in {rest : Sem Unit} (hr : s.heap.get? r = some obr) (hex : obr.ExactSet) (hd : obr.data = .set #[] epr tr) (M : Meets tr.mask) (hp : tr.place = #[]) (hm : tr.dummies = #[]) (hf : t.fits es.size = true) (hb : es.size < scanBound) (hn : es.size ≤ tr.mask)
    (fin : ∀ (h' : Heap) (ob' : Obj) (es' : Array (Int × Value)) (ep' : Nat) (t' : SetTable), Heap.SameBut r s.heap h' → h'.get? r = some ob' → ob'.ExactSet → ob'.data = .set es' ep' t' → es'.toList.Perm es.toList → t'.fits es'.size = true → t'.dummies = #[] → Q () { s with heap := h' }) :
    wpAny (model prog w) A (match tr.road t with
      | .slotForSlot => storeSet r es { t with finger := tr.finger, led := tr.led && t.led, moves := tr.moves, plain := tr.plain && t.plain }
      | .clean => do
        let (es, t) ← (do
          let some (t, order) := SetTable.laid tr.mask tr.finger tr.moves (led := tr.led && t.led) (plain := tr.plain && t.plain) (es.map (·.1)) | unsupported "internal:set-table-without-room"
          let es' := order.filterMap (es[·]?)
          if es'.size != es.size then unsupported "internal:set-table-lost-an-element"
          pure (es', t) : Sem (Array (Int × Value) × SetTable))
        storeSet r es t
      | .oneByOne => rest) Q E s := by
  have hfill : tr.fill = 0 := by
    unfold SetTable.fill
    rw [hp, hm]; rfl
  by_cases hsl : (tr.mask == t.mask && t.dummies.isEmpty) = true
  · have hroad : tr.road t = .slotForSlot := by
      unfold SetTable.road
      rw [hfill, if_neg (by decide), if_pos hsl]
    rw [hroad]
    dsimp only
    refine wpAny_storeSet_of hr hd ?_ (fits_of_scanBound hb)
    rw [Bool.and_eq_true] at hsl
    exact fin _ _ es _ _ (Heap.SameBut.update _ _ _) (store_at hr hd) ⟨hex.1, hex.2.1, hex.2.2⟩ rfl (List.Perm.refl _) hf (Array.eq_empty_of_size_eq_zero (by simpa [Array.isEmpty] using hsl.2))
  · have hroad : tr.road t = .clean := by
      unfold SetTable.road
      rw [hfill, if_neg (by decide), if_neg hsl]
    rw [hroad]
    dsimp only
    obtain ⟨t', order, e1, e2, e3, e4, e5⟩ := laid_gets (fi := tr.finger) (mo := tr.moves) (ld := tr.led && t.led) (pl := tr.plain && t.plain) M (hs := es.map (·.1)) (by rw [Array.size_map]; exact hn)
    rw [e1]
    rw [Array.size_map] at e2 e5
    have pm := order_perm e2
    have sz : (order.filterMap (es[·]?)).size = es.size := by rw [← Array.length_toList, pm.length_eq, Array.length_toList]
    dsimp only
    refine wpAny_bind ?_
    refine wp_if_neg (c := ((order.filterMap (es[·]?)).size != es.size) = true) (by simp [sz]) (wpAny_pure ?_)
    dsimp only
    have b2 : (order.filterMap (es[·]?)).size < scanBound := by rw [sz]; exact hb
    have f2 : t'.fits (order.filterMap (es[·]?)).size = true := by
      simp only [SetTable.fits, SetTable.fill, e3, e4, e5, sz, Bool.and_eq_true, beq_self_eq_true, decide_eq_true_eq, true_and]
      show es.size + 0 ≤ tr.mask
      omega
    refine wpAny_storeSet_of hr hd ?_ (fits_of_scanBound b2)
    exact fin _ _ _ _ _ (Heap.SameBut.update _ _ _) (store_at hr hd) ⟨hex.1, hex.2.1, hex.2.2⟩ rfl pm f2 e4
/-- the room for five to fifteen members -/
theorem room_sizes : ∀ n, n < 16 → ¬ n < 5 → (SetTable.sizeAbove (n * 2) - 1 = 15 ∧ n ≤ 15 ∨ SetTable.sizeAbove (n * 2) - 1 = 31) ∧ SetTable.sizeAbove (n * 2) ≤ 64 := by decide +kernel
theorem Meets.room {n : Nat} (h : n < 16) (h5 : ¬ n < 5) : Meets (SetTable.sizeAbove (n * 2) - 1) ∧ n ≤ SetTable.sizeAbove (n * 2) - 1 := by
  obtain ⟨c, _⟩ := room_sizes n h h5
  rcases c with ⟨c, d⟩ | c
  · rw [c]; exact ⟨meets15, d⟩
  · rw [c]; exact ⟨meets_of (.inr (.inl rfl)), by omega⟩
end
set_option maxHeartbeats 2000000 in
theorem copy_ok {a : Addr} {ob : Obj} {es : Array (Int × Value)} {ep : Nat} {t : SetTable} {Q : Value → Shared → Prop} (ho : s.heap.get? a = some ob) (hex : ob.ExactSet) (hd : ob.data = .set es ep t) (hb : es.size < scanBound) (hf : t.fits es.size = true) (h1 : es.size ≠ 0) (h4 : es.size < 16)
    (fin : ∀ (h' : Heap) (ob' : Obj) (es' : Array (Int × Value)) (ep' : Nat) (t' : SetTable), (∀ b u, s.heap.get? b = some u → h'.get? b = some u) → h'.get? s.heap.objs.size = some ob' → ob'.ExactSet → ob'.data = .set es' ep' t' → es'.toList.Perm es.toList → t'.fits es'.size = true → t'.dummies = #[] → Q (.ref s.heap.objs.size) { s with heap := h' }) :
    wpAny (model prog w) A (Builtin.Frozenset.copyOf a) Q E s := by
  have ta : s.TypeIs (.ref a) "set" := ⟨ob, ho, hex.1⟩
  have lt : a < s.heap.objs.size := Heap.lt_size ho
  unfold Builtin.Frozenset.copyOf
  refine wpAny_bind (base_of ta ?_)
  refine wpAny_bind (PpSet.newSet_ok ?_)
  unfold Builtin.Frozenset.addrOf
  refine wpAny_bind (wpAny_pure ?_)
  refine wpAny_bind ?_
  have ho1 : (s.heap.push (bareSet w)).get? a = some ob := Heap.get?_push_of_some _ ho
  have hr1 : (s.heap.push (bareSet w)).get? s.heap.objs.size = some (bareSet w) := Heap.get?_push_size _ rfl
  unfold setMerge
  have hne : (s.heap.objs.size == a) = false := beq_false_of_ne (Nat.ne_of_gt lt)
  rw [hne]
  simp only [Bool.false_eq_true, ↓reduceIte]
  refine wpAny_bind (wpAny_setState_of (s := { s with heap := s.heap.push (bareSet w) }) ho1 hd hf ?_)
  dsimp only
  have hie : es.isEmpty = false := by simpa [Array.isEmpty] using h1
  rw [hie]
  simp only [Bool.false_eq_true, ↓reduceIte]
  have kpt : ∀ {h2 : Heap}, Heap.SameBut s.heap.objs.size (s.heap.push (bareSet w)) h2 → ∀ b u, s.heap.get? b = some u → h2.get? b = some u := fun sb b u e => (sb.2 b (Nat.ne_of_lt (Heap.lt_size e))).trans (Heap.get?_push_of_some _ e)
  unfold setRoomFor
  refine wpAny_bind (wpAny_bind (wpAny_setState_of (s := { s with heap := s.heap.push (bareSet w) }) hr1 rfl rfl ?_))
  dsimp only
  by_cases h5 : es.size < 5
  · have hroom : (SetTable.fresh 0 0 (!w.params.followText "set-order")).roomFor es.size = none := by
      show (if (0 + es.size) * 5 ≥ 7 * 3 then some _ else none) = none
      rw [if_neg (by omega)]
    rw [hroom]
    refine wpAny_pure ?_
    refine wpAny_bind (wpAny_setState_of (s := { s with heap := s.heap.push (bareSet w) }) hr1 rfl rfl ?_)
    exact merge_in (s := { s with heap := s.heap.push (bareSet w) }) (tr := .fresh 0 0 (!w.params.followText "set-order")) hr1 ⟨rfl, rfl, rfl⟩ rfl (meets_of (.inl rfl)) rfl rfl hf hb (by show es.size ≤ 7; omega) fun h' ob' es' ep' t' sb g1 g2 g3 g4 g5 g6 => wpAny_pure (fin h' ob' es' ep' t' (kpt sb) g1 g2 g3 g4 g5 g6)
  · have hroom : (SetTable.fresh 0 0 (!w.params.followText "set-order")).roomFor es.size = some (es.size * 2) := by
      show (if (0 + es.size) * 5 ≥ 7 * 3 then some ((0 + es.size) * 2) else none) = _
      rw [if_pos (by omega), Nat.zero_add]
    obtain ⟨M, hnm⟩ := Meets.room h4 h5
    obtain ⟨_, hz⟩ := room_sizes es.size h4 h5
    rw [hroom]
    dsimp only
    rw [setRelay_eq]
    refine wpAny_bind (wpAny_setState_of (s := { s with heap := s.heap.push (bareSet w) }) hr1 rfl rfl ?_)
    dsimp only
    refine wp_if_neg (by rw [sizeLine_eq]; omega) ?_
    try refine wpAny_bind (wpAny_pure ?_)
    obtain ⟨t', order, e1, e2, e3, e4, e5⟩ := laid_gets (fi := 0) (mo := (SetTable.fresh 0 0 (!w.params.followText "set-order")).movedTo (SetTable.sizeAbove (es.size * 2) - 1)) (ld := (SetTable.fresh 0 0 (!w.params.followText "set-order")).led) (pl := true) M (hs := (#[] : Array Int)) (Nat.zero_le _)
    have er : (SetTable.fresh 0 0 (!w.params.followText "set-order")).relaid ((#[] : Array (Int × Value)).map (·.1)) (es.size * 2) = some (t', order) := by
      have em : ((#[] : Array (Int × Value)).map (·.1)) = #[] := by simp
      rw [em]; exact e1
    have eo : order = #[] := Array.eq_empty_of_size_eq_zero (by rw [← Array.length_toList, e2.length_eq]; rfl)
    subst eo
    have ep0 : t'.place = #[] := Array.eq_empty_of_size_eq_zero e5
    rw [er]
    dsimp only
    refine wpAny_bind ?_
    refine wp_if_neg (by simp) ?_
    try refine wpAny_bind (wpAny_pure ?_)
    refine wpAny_pure ?_
    dsimp only
    have ff : t'.fits (#[] : Array (Int × Value)).size = true := by
      simp only [SetTable.fits, SetTable.fill, e4, ep0]
      rfl
    refine wpAny_storeSet_of (s := { s with heap := s.heap.push (bareSet w) }) hr1 rfl ?_ (by rw [sizeLine_eq]; simp)
    have at1 := store_at (es' := (#[] : Array (Int × Value))) (t' := t') hr1 rfl
    have sb1 := Heap.SameBut.update (s.heap.push (bareSet w)) s.heap.objs.size (Obj.putSet (#[] : Array (Int × Value)) t')
    refine wpAny_bind (wpAny_setState_of (s := { s with heap := (s.heap.push (bareSet w)).update s.heap.objs.size (Obj.putSet (#[] : Array (Int × Value)) t') }) at1 rfl ff ?_)
    exact merge_in (s := { s with heap := (s.heap.push (bareSet w)).update s.heap.objs.size (Obj.putSet (#[] : Array (Int × Value)) t') }) (tr := t') at1 ⟨rfl, rfl, rfl⟩ rfl (by rw [e3]; exact M) ep0 e4 hf hb (by rw [e3]; exact hnm) fun h' ob' es' ep' t2 sb g1 g2 g3 g4 g5 g6 => wpAny_pure (fin h' ob' es' ep' t2 (kpt (sb1.trans sb)) g1 g2 g3 g4 g5 g6)
theorem unseen_nil {o : Addr} {l : List Addr} {f : Option Addr} {ob : Obj} {es : Array (Int × Value)} {ep : Nat} {t : SetTable} {Q : Array (Int × Value) → Shared → Prop} (ho : s.heap.get? o = some ob) (hd : ob.data = .set es ep t) (hf : t.fits es.size = true) (h0 : es.size = 0) (q : ∀ es' : Array (Int × Value), es'.toList = [] → Q es' s) : wpAny (model prog w) A (setWalkUnseen o l f) Q E s := by
  have e0 : es = #[] := Array.eq_empty_of_size_eq_zero h0
  subst e0
  unfold setWalkUnseen
  refine wpAny_bind (wpAny_setState_of ho hd hf (wpAny_bind (wpAny_byText ?_)))
  dsimp only
  rw [if_pos (by simp)]
  unfold setWalk
  refine wpAny_bind (wpAny_setState_of ho hd hf (wpAny_bind (wpAny_byText ?_)))
  by_cases cb : w.params.followText "set-order" = true
  · rw [cb]
    simp only [↓reduceIte]
    refine wpAny_bind (wpAny_askSetting ?_)
    exact wpAny_pure (q _ (List.Perm.eq_nil (pick_perm _ #[])))
  · rw [Bool.eq_false_iff.mpr cb]
    simp only [Bool.false_eq_true, ↓reduceIte]
    refine wp_if_neg (c := (!t.plain && decide ((#[] : Array (Int × Value)).size > 1)) = true) (by simp) ?_
    refine wpAny_bind ?_
    exact wp_if_neg (c := (!t.led && decide ((#[] : Array (Int × Value)).size > 1)) = true) (by simp) (wpAny_pure (wpAny_pure (q _ rfl)))
set_option maxHeartbeats 2000000 in
/-- set(xs) - set(..): how many there are -/
theorem diff_ok {id : String} {a o : Addr} {S S2 : Str → Bool} {xs : List Str} {n2 : Nat} {Q : Value → Shared → Prop} (ha : s.heap.SetOf (PySem.strKind prog w) a S xs.length) (hS : ∀ x ∈ xs, S x = true) (hx : xs.Nodup) (h2 : s.heap.SetOf (PySem.strKind prog w) o S2 n2) (hao : a ≠ o) (h4 : xs.length < 16) (h3 : xs.length / 4 ≤ n2 ∨ n2 = 0) (h0 : n2 = 0 → ∀ z, S2 z = false)
    (fin : ∀ (h' : Heap) (tk : Nat) (c : Addr) (M : Str → Bool), (∀ b u, s.heap.get? b = some u → h'.get? b = some u) → h'.SetOf (PySem.strKind prog w) c M (xs.filter (fun z => !S2 z)).length → Q (.ref c) { s with heap := h', toks := tk }) :
    wpAny (model prog w) A (Builtin.Frozenset.difference id a (.ref o)) Q E s := by
  have ta := set_type ha
  have to_ := set_type h2
  obtain ⟨ob, es, ep, t, ho, hex, hd, hel, hm, hb, hf, hn⟩ := ha
  have hok := okZ_of hel
  have kp : (es.toList.map memZ).Perm xs := keys_perm xs _ hx (fun x hx => (okZ_mem hok x).mpr ((hm x).mp (hS x hx))) (by rw [List.length_map, Array.length_toList]; exact hn)
  have lt : a < s.heap.objs.size := Heap.lt_size ho
  have lto : o < s.heap.objs.size := by
    obtain ⟨o3, es3, ep3, t3, ho3, more⟩ := h2
    exact Heap.lt_size ho3
  unfold Builtin.Frozenset.difference
  refine wpAny_bind (anyset to_ ?_)
  simp only [Bool.not_true, Bool.false_eq_true, ↓reduceIte]
  unfold Builtin.Frozenset.addrOf
  refine wpAny_bind (wpAny_pure ?_)
  simp only [Bool.false_and, Bool.false_eq_true, ↓reduceIte]
  refine wpAny_bind (size_of h2 ?_)
  refine wpAny_bind (size_of ⟨ob, es, ep, t, ho, hex, hd, hel, hm, hb, hf, hn⟩ ?_)
  by_cases big : xs.length / 4 > n2
  · rw [if_pos big]
    refine wpAny_bind (wpAny_rule ?_)
    have n20 : n2 = 0 := by omega
    refine wpAny_bind (copy_ok ho hex hd hb hf (by omega) (by omega) fun h' ob' es' ep' t' hk hc hex' hd' pm hf' hdm => ?_)
    refine wpAny_bind (wpAny_pure ?_)
    have hel' : ElemsOf (PySem.strKind prog w) es'.toList := fun p hp => hel p (pm.mem_iff.mp hp)
    have sz' : es'.size = xs.length := by rw [← Array.length_toList, pm.length_eq, Array.length_toList, hn]
    have efl : (xs.filter (fun z => !S2 z)).length = xs.length := by
      rw [List.filter_eq_self.mpr fun z _ => by rw [h0 n20 z]; rfl]
    have hc' : h'.SetOf (PySem.strKind prog w) s.heap.objs.size S (xs.filter (fun z => !S2 z)).length := ⟨ob', es', ep', t', hc, hex', hd', hel', fun k => (hm k).trans ⟨fun ⟨p, hp, e⟩ => ⟨p, pm.mem_iff.mpr hp, e⟩, fun ⟨p, hp, e⟩ => ⟨p, pm.mem_iff.mp hp, e⟩⟩, by rw [sz']; unfold scanBound; omega, hf', by rw [efl]; exact sz'⟩
    refine wpAny_bind (wpAny_holding ?_)
    unfold Builtin.Frozenset.differenceUpdate
    have nor : o ≠ s.heap.objs.size := Nat.ne_of_lt lto
    have nb : (Value.ref o == Value.ref s.heap.objs.size) = false := by
      simp [nor]
    rw [nb]
    simp only [Bool.false_eq_true, ↓reduceIte]
    have h2' : h'.SetOf (PySem.strKind prog w) o S2 n2 := by
      obtain ⟨o3, es3, ep3, t3, ho3, more⟩ := h2
      exact ⟨o3, es3, ep3, t3, hk _ _ ho3, more⟩
    refine wpAny_bind (anyset (s := { s with heap := h' }) (set_type (s := { s with heap := h' }) h2') ?_)
    simp only [↓reduceIte]
    unfold Builtin.Frozenset.addrOf
    refine wpAny_bind (wpAny_pure ?_)
    refine wpAny_bind (size_of (s := { s with heap := h' }) h2' ?_)
    refine wpAny_bind (size_of (s := { s with heap := h' }) hc' ?_)
    rw [if_neg (by rw [n20]; omega)]
    obtain ⟨o3, es3, ep3, t3, ho3, hex3, hd3, hel3, hm3, hb3, hf3, hn3⟩ := h2'
    refine wpAny_bind (wpAny_setEpoch_of (s := { s with heap := h' }) ho3 hd3 hf3 ?_)
    refine wpAny_bind (wpAny_holding ?_)
    refine wpAny_bind (unseen_nil (s := { s with heap := h' }) ho3 hd3 hf3 (by rw [hn3, n20]) fun es4 e4 => ?_)
    refine wpAny_bind (forIn_arr _ (fun rest b s' => rest = [] ∧ s' = { s with heap := h' }) _ ?_ ?_ es4 _ ⟨e4, rfl⟩)
    · rintro x rest b s' ⟨z, _⟩
      cases z
    · rintro b s' ⟨_, rfl⟩
      refine wpAny_pure ?_
      unfold setTidy
      refine wpAny_bind (wpAny_setState_of (s := { s with heap := h' }) hc hd' hf' ?_)
      dsimp only
      have tm : t'.tooManyDummies = false := by
        unfold SetTable.tooManyDummies
        rw [hdm]
        simp
      rw [tm]
      simp only [Bool.false_eq_true, ↓reduceIte]
      exact wpAny_pure (wpAny_pure (fin h' s.toks _ S hk hc'))
  · rw [if_neg big]
    refine wpAny_bind (base_of ta ?_)
    refine wpAny_bind (PpSet.newSet_ok ?_)
    refine wpAny_bind (wpAny_pure ?_)
    have kp1 : ∀ b u, s.heap.get? b = some u → (s.heap.push (bareSet w)).get? b = some u := fun b u e => Heap.get?_push_of_some _ e
    have h2' : (s.heap.push (bareSet w)).SetOf (PySem.strKind prog w) o S2 n2 := by
      obtain ⟨o3, es3, ep3, t3, ho3, more⟩ := h2
      exact ⟨o3, es3, ep3, t3, kp1 _ _ ho3, more⟩
    have hr1 : (s.heap.push (bareSet w)).SetOf (PySem.strKind prog w) s.heap.objs.size (fun _ => false) 0 := (zset_bare w s.heap).setOf
    refine wpAny_bind (wpAny_setEpoch_of (s := { s with heap := s.heap.push (bareSet w) }) (kp1 _ _ ho) hd hf ?_)
    refine wpAny_bind (wpAny_holding ?_)
    refine wpAny_bind (unseen_ok (s := { s with heap := s.heap.push (bareSet w) }) (kp1 _ _ ho) hex hd hel hb hf h2' hr1 fun es' h' pm sb hr' => ?_)
    have nar : a ≠ s.heap.objs.size := Nat.ne_of_lt lt
    have nor : o ≠ s.heap.objs.size := Nat.ne_of_lt lto
    have h2'' : h'.SetOf (PySem.strKind prog w) o S2 n2 := by
      obtain ⟨o3, es3, ep3, t3, ho3, more⟩ := h2'
      exact ⟨o3, es3, ep3, t3, (sb.2 o nor).trans ho3, more⟩
    refine wpAny_bind (fill_ok (id := id) (s := { s with heap := h' }) (fun p u => rfl) ((sb.2 a nar).trans (kp1 _ _ ho)) hd hf h2'' hr' nar nor es' (fun p hp => hok p (pm.mem_iff.mp hp)) ((pm.map memZ).nodup_iff.mpr (kp.nodup_iff.mpr hx)) (by rw [← Array.length_toList, pm.length_eq, Array.length_toList, hn]; omega) fun h3 tk M sb3 hS3 => ?_)
    have ec : ((es'.toList.map memZ).filter (fun z => !S2 z)).length = (xs.filter (fun z => !S2 z)).length := (((pm.map memZ).trans kp).filter _).length_eq
    rw [ec] at hS3
    exact wpAny_pure (wpAny_pure (fin h3 tk _ M (fun b u e => (sb3.2 b (Nat.ne_of_lt (Heap.lt_size e))).trans ((sb.2 b (Nat.ne_of_lt (Heap.lt_size e))).trans (kp1 b u e))) hS3))
theorem entry_set_sub : entryFor table "set.__sub__" = some Builtin.«frozenset.__sub__» :=
  entryFor_alias (id' := "frozenset.__sub__") (by rw [fastTable_eq_tree]; kernel_rfl) (by decide +kernel) (by decide +kernel) (by rw [fastTable_eq_tree]; kernel_rfl)
set_option maxHeartbeats 2000000 in
theorem sub_ok {a o : Addr} {S S2 : Str → Bool} {xs : List Str} {n2 : Nat} {Q : Value → Shared → Prop} (ha : s.heap.SetOf (PySem.strKind prog w) a S xs.length) (hS : ∀ x ∈ xs, S x = true) (hx : xs.Nodup) (h2 : s.heap.SetOf (PySem.strKind prog w) o S2 n2) (hao : a ≠ o) (h4 : xs.length < 16) (h3 : xs.length / 4 ≤ n2 ∨ n2 = 0) (h0 : n2 = 0 → ∀ z, S2 z = false)
    (fin : ∀ (h' : Heap) (tk : Nat) (c : Addr) (M : Str → Bool), (∀ b u, s.heap.get? b = some u → h'.get? b = some u) → h'.SetOf (PySem.strKind prog w) c M (xs.filter (fun z => !S2 z)).length → Q (.ref c) { s with heap := h', toks := tk }) :
    wpAny (model prog w) A (binaryOp .Sub (.ref a) (.ref o)) Q E s := by
  have ta := set_type ha
  have to_ := set_type h2
  refine wpAny_binaryOp_same ta to_ PySem.F.fills_set_sub PySem.F.slot_set_sub ?_
  refine wpAny_call_entry PySem.F.slot_set_sub ta entry_set_sub ?_ (PySem.F.args_set_sub_2 _ _)
  show wpAny (model prog w) A.in1 (Builtin.Frozenset.slot1 "__sub__" ⟨[.ref a, .ref o], []⟩ >>= _) _ _ _
  unfold Builtin.Frozenset.slot1
  refine wpAny_bind (wpAny_bind (wpAny_of_eq (show slotArgs "__sub__" 1 ⟨[.ref a, .ref o], []⟩ = pure (.ref a, [.ref o]) from rfl) (wpAny_pure ?_)))
  dsimp only
  simp only [Bool.false_eq_true, ↓reduceIte]
  refine wpAny_bind ?_
  have both : ∀ {R : Bool → Shared → Prop}, R true s → wpAny (model prog w) A.in1 (Builtin.Frozenset.isAnySet (.ref a) <&&> Builtin.Frozenset.isAnySet (.ref o)) R E s := fun {R} q => by
    unfold andM
    refine wpAny_bind (anyset ta ?_)
    exact anyset to_ q
  refine both ?_
  simp only [Bool.not_true, Bool.false_eq_true, ↓reduceIte]
  unfold Builtin.Frozenset.addrOf
  refine wpAny_bind (wpAny_pure ?_)
  refine wpAny_bind (diff_ok ha hS hx h2 hao h4 h3 h0 fun h' tk c M hk hc => ?_)
  exact wpAny_pure ⟨_, rfl, (fun e => nomatch e), fin h' tk c M hk hc⟩
end
/-! ### len(set(a) - set(b)), as data -/
theorem cnt_nodup {xs : List Str} (h : xs.Nodup) : ∀ i, i ≤ xs.length → cnt xs i = i
  | 0, _ => rfl
  | i + 1, hi => by
    have ih := cnt_nodup h i (by omega)
    have hn : (xs.take i).any (· == xs.getD i Str.empty) = false := by
      rw [List.any_eq_false]
      intro z hz e
      have e : z = xs.getD i Str.empty := beq_iff_eq.mp e
      have eg : xs.getD i Str.empty = xs[i] := by simp [show i < xs.length by omega]
      rw [eg] at e
      obtain ⟨j, hj, ez⟩ := List.getElem_of_mem hz
      rw [List.length_take] at hj
      rw [List.getElem_take] at ez
      have := (List.getElem_inj h).mp (ez.trans e)
      omega
    rw [cnt, hn, ih]
    rfl
section
variable {X : Cx} {a b : Expr} {ta tb : DE} {p p2 p3 p4 q r : Pos}
theorem Inv.pinned {pins : List (Addr × Obj)} {σ : L2.St} {H : Hp} {s : Shared} {c : Addr} {o : Obj} (I : Inv X pins σ H s) {s2 : Shared} (I2 : Inv X pins σ H s2) (hc : s.heap.objs.size ≤ c) (ho : s2.heap.get? c = some o) (nd : ∀ v, o.data ≠ .cell v) : Inv X ((c, o) :: pins) σ H s2 :=
  have h : ∀ z ∈ X.pn ++ ((c, o) :: pins), s2.heap.get? z.1 = some z.2 ∧ H z.1 = none ∧ z.1 ≠ X.env.locals ∧ z.1 ∉ X.fs ∧ ∀ v, z.2.data ≠ .cell v := fun z hz => by
    rcases List.mem_append.mp hz with hz | hz
    · exact I2.pin z (List.mem_append_left _ hz)
    · rcases List.mem_cons.mp hz with rfl | hz
      · exact ⟨ho, I.hok.fresh hc, Nat.ne_of_gt (Nat.lt_of_lt_of_le I.lt hc), I.nofs hc, nd⟩
      · exact I2.pin z (List.mem_append_right _ hz)
  { I2 with pin := h }
theorem Inv.unpin {pins : List (Addr × Obj)} {σ : L2.St} {H : Hp} {s : Shared} {z : Addr × Obj} (I : Inv X (z :: pins) σ H s) : Inv X pins σ H s ∧ s.heap.get? z.1 = some z.2 :=
  have h : ∀ y ∈ X.pn ++ pins, s.heap.get? y.1 = some y.2 ∧ H y.1 = none ∧ y.1 ≠ X.env.locals ∧ y.1 ∉ X.fs ∧ ∀ v, y.2.data ≠ .cell v := fun y hy => I.pin y (by
    rcases List.mem_append.mp hy with hy | hy
    · exact List.mem_append_left _ hy
    · exact List.mem_append_right _ (List.mem_cons_of_mem _ hy))
  ⟨{ I with pin := h }, (I.pin z (List.mem_append_right _ (List.mem_cons_self ..))).1⟩
theorem cnt_pos (xs : List Str) : ∀ i, 1 ≤ cnt xs (i + 1)
  | 0 => by rw [cnt]; simp [cnt]
  | i + 1 => by
    have := cnt_pos xs i
    rw [cnt]
    split <;> omega
/-- the difference of these two sets can be walked -/
def LkOk (xs ys : List Str) : Prop := xs.length < 16 ∧ (xs.length / 4 ≤ cnt ys ys.length ∨ ys = [])
theorem LkOk.few {xs ys : List Str} (h : xs.length ≤ 4) : LkOk xs ys := by
  refine ⟨by omega, ?_⟩
  cases ys with
  | nil => exact .inr rfl
  | cons y ys =>
    refine .inl (Nat.le_trans (show xs.length / 4 ≤ 1 by omega) ?_)
    rw [List.length_cons]
    exact cnt_pos _ _
def dLenDiff (ta tb : DE) : DE := fun env m Q => ta env m fun d m1 => ∃ xs : List Str, d = .tup (xs.map D.str) ∧ xs.Nodup ∧ xs.length < 16 ∧ tb env m1 fun e m2 => ∃ ys : List Str, e = .tup (ys.map D.str) ∧ ys.length ≤ 4000 ∧ LkOk xs ys ∧ Q (.int ((xs.filter fun z => !ys.any (· == z)).length : Nat)) m2
set_option maxHeartbeats 2000000 in
theorem de_lendiff (hm : X.mg "len" = none) (hm2 : X.mg "set" = none) (ha : De X a ta) (hb : De X b tb) (hc : X.calm = true := by rfl) (hg : Gl X "len" := by rfl) (hg2 : Gl X "set" := by rfl) (na : starEach [a] X.env = (false, eval a X.env) :: starEach [] X.env := by rfl) (nb : starEach [b] X.env = (false, eval b X.env) :: starEach [] X.env := by rfl) (hK : X.K = Cl.K := by rfl) :
    De X (.Call (.Name "len" p) [.BinOp (.Call (.Name "set" p2) [a] [] q) .Sub (.Call (.Name "set" p3) [b] [] r) p4] [] pos) (dLenDiff ta tb) := by
  refine ⟨fun w σ H env m Q' Q sl hu h k pins s I => ?_⟩
  refine Call_ (ld_blt I hg hm boot_len ?_)
  refine PyProof.Rows.callWith_builtin1 (PyProof.Rows.args_cons ?_ rfl) rfl rfl
  refine wpAny_BinOp ?_
  refine Call_ (ld_blt I hg2 hm2 boot_set ?_)
  have got := ha.run w σ H env m _ (fun v H1 => ∃ (l : Addr) (xs : List Str) (m1 : Nat), v = .ref l ∧ SqT X.K H1 l (xs.map V.str) ∧ xs.Nodup ∧ xs.length < 16 ∧ Fr w H H1 ∧ UI w m1 H1 ∧ tb env m1 (fun e m2 => ∃ ys : List Str, e = .tup (ys.map D.str) ∧ ys.length ≤ 4000 ∧ LkOk xs ys ∧ Q' (.int ((xs.filter fun z => !ys.any (· == z)).length : Nat)) m2)) sl hu h (fun v d m1 H1 f1 u1 h1 q1 => by
    obtain ⟨xs, rfl, hx, hl, q1⟩ := q1
    rw [Hd.tup] at h1
    obtain ⟨l, vs, rfl, hp, hds⟩ := h1
    have := hds.flat (by rw [List.all_eq_true]; intro d hd; obtain ⟨b, _, rfl⟩ := List.mem_map.mp hd; rfl)
    have e2 : (xs.map D.str).map fv = xs.map V.str := by rw [List.map_map]; rfl
    rw [e2] at this
    subst this
    exact ⟨l, xs, m1, rfl, hp.sq hK, hx, hl, f1, u1, q1⟩) pins s I
  refine PyProof.Rows.callWith_type1 (PyProof.Rows.args_cons (thn got fun v s1 ⟨x, H1, I1, r1, q1⟩ => PyProof.Rows.args_nil ?_) na) na rfl
  obtain ⟨l, xs, m1, rfl, hq, hx, hl, f1, u1, q1⟩ := q1
  cases r1
  obtain ⟨its, rv, pl, hz⟩ := I1.tuple hq
  have size : its.toArray.size = xs.length := by rw [List.size_toArray, ← rv.length, List.length_map]
  refine set_of_tuple (I1.ok.hd hc) pl (by simpa using strsAre_of rv) (by omega) fun h' tk hS hk => ?_
  rw [size] at hS
  have hS0 := hS
  obtain ⟨o, es, ep, t, ho, hex, hd, hel, hmm, hbb, hf, hn⟩ := hS
  have I2 : Inv X pins σ H1 { s1 with heap := h', toks := tk } := I1.kept fun b o e => hk b o (Heap.lt_size e) e
  have I3 := Inv.pinned I1 I2 (Nat.le_refl _) ho (by rw [hd]; exact fun v e => nomatch e)
  refine Call_ (ld_blt I3 hg2 hm2 boot_set ?_)
  have got2 := hb.run w σ H1 env m1 _ (fun v H2 => ∃ (l : Addr) (ys : List Str), v = .ref l ∧ SqT X.K H2 l (ys.map V.str) ∧ ys.length ≤ 4000 ∧ LkOk xs ys ∧ Q (.int ((xs.filter fun z => !ys.any (· == z)).length : Nat)) H2) (sl.fr f1) u1 q1 (fun v d m2 H2 f2 u2 h2 q2 => by
    obtain ⟨ys, rfl, hl, hk2, q2⟩ := q2
    rw [Hd.tup] at h2
    obtain ⟨l, vs, rfl, hp, hds⟩ := h2
    have := hds.flat (by rw [List.all_eq_true]; intro d hd; obtain ⟨b, _, rfl⟩ := List.mem_map.mp hd; rfl)
    have e2 : (ys.map D.str).map fv = ys.map V.str := by rw [List.map_map]; rfl
    rw [e2] at this
    subst this
    exact ⟨l, ys, rfl, hp.sq hK, hl, hk2, k _ _ _ _ (f1.trans f2) u2 (Hd.int.mpr rfl) q2⟩) _ _ I3
  refine PyProof.Rows.callWith_type1 (PyProof.Rows.args_cons (thn got2 fun v s2 ⟨x, H2, I4, r2, q2⟩ => PyProof.Rows.args_nil ?_) nb) nb rfl
  obtain ⟨l2, ys, rfl, hq2, hl2, hk0, q2⟩ := q2
  cases r2
  obtain ⟨I5, hc5⟩ := Inv.unpin I4
  obtain ⟨its2, rv2, pl2, hz2⟩ := I5.tuple hq2
  have size2 : its2.toArray.size = ys.length := by rw [List.size_toArray, ← rv2.length, List.length_map]
  refine set_of_tuple (I5.ok.hd hc) pl2 (by simpa using strsAre_of rv2) hl2 fun h2 tk2 hS2 hk2 => ?_
  rw [size2] at hS2
  have lt5 := Heap.lt_size hc5
  have ex := cnt_nodup hx xs.length (Nat.le_refl _)
  have hS1 : h2.SetOf (PySem.strKind X.prog X.w) s1.heap.objs.size (fun z => (xs.take xs.length).any (· == z)) xs.length := ⟨o, es, ep, t, hk2 _ _ lt5 hc5, hex, hd, hel, hmm, hbb, hf, by rw [← ex]; exact hn⟩
  refine sub_ok (s := { s2 with heap := h2, toks := tk2 }) hS1 (fun x hx => ?_) hx hS2 (Nat.ne_of_lt lt5) hk0.1 (hk0.2.imp id fun e => by rw [e]; rfl) (fun e z => ?_) fun h3 tk3 c M hk3 hc3 => ?_
  · rw [List.take_length]
    exact List.any_eq_true.mpr ⟨x, hx, beq_self_eq_true x⟩
  · rw [List.take_length]
    cases ys with
    | nil => rfl
    | cons y ys =>
      have := cnt_pos (y :: ys) ys.length
      rw [List.length_cons] at e
      omega
  · have I6 : Inv X pins σ H2 { s2 with heap := h3, toks := tk3 } := I5.kept fun b o e => hk3 _ _ (hk2 b o (Heap.lt_size e) e)
    refine PyProof.Rows.args_nil ?_
    obtain ⟨o4, es4, ep4, t4, ho4, hex4, hd4, _, _, hbb4, hf4, hn4⟩ := hc3
    rw [List.take_length] at hn4
    exact call_len_set (s := { s2 with heap := h3, toks := tk3 }) ho4 hex4 hd4 hf4 (by unfold scanBound at hbb4; omega) ⟨.int ((xs.filter fun z => !ys.any (· == z)).length : Nat), H2, I6.tok _, ⟨_, by rw [hn4]⟩, q2⟩
end
end TC
namespace TC
open PySem PySem.Spec PyProof.Rows L2
variable [Cl]
/-! ### -e -/
def dNeg (te : DE) : DE := fun env m Q => te env m fun d m1 => ∃ i, d = .int i ∧ Q (.int (-i)) m1
theorem de_neg {X : Cx} {e : Expr} {te : DE} {pos : Pos} (he : De X e te) : De X (.UnaryOp .USub e pos) (dNeg te) := by
  refine ⟨fun w σ H env m Q' Q sl hu h c => wp_of (pe_un un_neg pe_self) ?_⟩
  refine he.run w σ H env m _ _ sl hu h fun v d m1 H1 f1 u1 h1 q1 => ?_
  obtain ⟨i, rfl, q1⟩ := q1
  rw [Hd.int] at h1
  subst h1
  exact ⟨i, rfl, c _ _ _ _ f1 u1 (Hd.int.mpr rfl) q1⟩
/-! ### isinstance(d, C), C an own class, d of any kind -/
def bltNames : List String := ["NoneType", "bool", "int", "str", "list", "tuple"]
structure IsB (K : PySem.W.Frag) (j : Nat) : Prop where
  ki : (bltNames.all fun t => PySem.W.kitOne K (.type t) (.ref (Cl.c j).1) == some false) = true
theorem tyD_blt {d : D} (h : noUrn d = true) : tyD d ∈ bltNames := by
  cases d <;> first | (simp only [tyD, bltNames]; decide) | cases h
theorem IsB.at {K : PySem.W.Frag} {j : Nat} (B : IsB K j) {d : D} (h : noUrn d = true) : PySem.W.kitOne K (.type (tyD d)) (.ref (Cl.c j).1) = some false :=
  eq_of_beq (List.all_eq_true.mp B.ki _ (tyD_blt h))
section
variable {X : Cx} {e : Expr} {te : DE} {A : Str} {p p1 pos : Pos}
def dIsA (K : PySem.W.Frag) (j : Nat) (te : DE) : DE := fun env m Q => te env m fun d m1 => (∃ n l b, d = .obj n l ∧ IsF K n j b ∧ Q (.bl b) m1) ∨ (noUrn d = true ∧ Q (.bl false) m1)
theorem de_isiA (j : Nat) (B : IsB X.K j) (hm : X.mg "isinstance" = none) (ha : De X e te) (hA : X.mg A = some (.ref (Cl.c j).1))
    (hgA : Gl X A := by rfl) (hg : Gl X "isinstance" := by rfl) (hdA : (A == ("__debug__" : Str)) = false := by decide)
    (hs1 : starEach [e, .Name A p1] X.env = (false, eval e X.env) :: starEach [.Name A p1] X.env := by rfl) (hs2 : starEach [.Name A p1] X.env = (false, eval (.Name A p1) X.env) :: starEach [] X.env := by rfl)
    (hpl : (backTo pos (starEach [.Name A p1] X.env)).any (·.1) = false := by rfl) (hK : X.K = Cl.K := by rfl) :
    De X (.Call (.Name "isinstance" p) [e, .Name A p1] [] pos) (dIsA X.K j te) := by
  have pA : PE X (.Name A p1) (fun σ H Q => Q (.ref (Cl.c j).1) H) := ⟨fun pins s σ H Q I h => ld_glob I hgA hA ⟨.ref _, H, I, rfl, h⟩ hdA⟩
  refine ⟨fun w σ H env m Q' Q sl hu h c => wp_of (pe_callB call_isi hg hm (by decide +kernel) (pa_cons pe_self (pa_cons pA pa_nil hs2) hs1) (by decide) (by decide) hs1 hpl) ?_⟩
  refine ha.run w σ H env m _ _ sl hu h fun v d m1 H1 f1 u1 h1 q1 => ?_
  rcases q1 with ⟨n, l, b, rfl, F, q⟩ | ⟨hn, q⟩
  · unfold Hd at h1
    obtain ⟨a, dx, vs, rfl, na, nd, hd, hp, hds⟩ := h1
    exact ⟨.ref a, .ref (Cl.c j).1, .ref (Cl.c n).1, .ref (Cl.c j).1, b, rfl, .own _, .base (.ins hp F.cl F.ha F.hn F.htk F.hm), F.ki, c _ _ _ _ f1 u1 (Hd.bl.mpr rfl) q⟩
  · exact ⟨v, .ref (Cl.c j).1, .type (tyD d), .ref (Cl.c j).1, false, rfl, .own _, h1.ty hK hn, B.at hn, c _ _ _ _ f1 u1 (Hd.bl.mpr rfl) q⟩
end
/-! ### any -/
theorem dc_any {X : Cx} (hc : X.calm = true) : DCall X (.builtin "any") (fun ds m Q => ∃ bs : List Bool, ds = [.lst (bs.map D.bl)] ∧ Q (.bl (bs.any fun b => b)) m) := by
  refine ⟨fun w H m vs ds Q' Q hu hs h c => ?_⟩
  obtain ⟨bs, rfl, q⟩ := h
  obtain ⟨v, xs, rfl, h1, h2⟩ := hs.uncons
  cases h2.unnil
  rw [Hd.lst] at h1
  obtain ⟨a, us, rfl, na, ha, hds⟩ := h1
  have e := hds.flat (by rw [List.all_eq_true]; intro d hd; obtain ⟨b, _, rfl⟩ := List.mem_map.mp hd; rfl)
  subst e
  refine wpC_of (cr_any hc) ⟨a, bs, rfl, ?_, c _ _ _ _ (Fr.refl _ _) hu (Hd.bl.mpr rfl) q⟩
  have e : (bs.map D.bl).map fv = bs.map V.bl := by rw [List.map_map]; rfl
  rw [e] at ha
  exact SqL.of ha
/-! ### x = a + b, a list that is filled later -/
section
variable {X : Cx} {pos : Pos} {rest : List Stmt} {um : DM}
def dmNewAdd (i : Nat) (ta tb : DE) (u : DM) : DM := fun nw nx rt env m => ta env m fun x m1 => tb env m1 fun y m2 => ∃ l r, x = .lst l ∧ y = .lst r ∧ nocL (l ++ r) = true ∧ l.length + r.length ≤ sizeLine ∧
  ∀ p, nw p → (∀ (j : Nat) (q : Addr) (k : List D), env[j]? = some (some (.cell q k)) → q ≠ p) → u nw nx rt (env.set i (some (.cell p (l ++ r)))) m2
theorem dmT_newAdd {i : Nat} {x : Str} {a b : Expr} {ta tb : DE} {pos' lpos : Pos} (hN : X.N.Nodup) (ha : De X a ta) (hb : De X b tb) (h : DmT X rest um) (hi : X.N[i]? = some x := by rfl) (hx : Loc X.env.scope x := by first | exact Or.inl rfl | exact Or.inr rfl) (hs : swapsWith (.BinOp a .Add b lpos) (some (.Name x pos')) pos.line X.env = pure false := by rfl)
    (hf : X.fn x = true ∨ X.env.scope.names.lookup x = some .local := by first | exact .inl rfl | exact .inr rfl | assumption) : DmT X (.Assign [.Name x pos'] (.BinOp a .Add b lpos) pos :: rest) (dmNewAdd i ta tb um) := by
  refine ⟨fun w0 H0 w nw σ H env m nx rt Dn W f sl hu q c r => wpSs_of (pss_cons (ps_set hN hi hx (pe_op op_self pe_self pe_self) hs hf) pss_self) ?_⟩
  refine ha.run w σ H env m _ _ sl hu q fun v1 d1 m1 H1 f1 u1 g1 q1 => ?_
  refine hb.run w σ H1 env m1 _ _ (sl.fr f1) u1 q1 fun v2 d2 m2 H2 f2 u2 g2 q2 => ?_
  obtain ⟨l, r', rfl, rfl, nc, hz, q3⟩ := q2
  have g1 := g1.fr f2
  rw [Hd.lst] at g1 g2
  obtain ⟨a1, vs, rfl, na, hva, hs1⟩ := g1
  obtain ⟨b1, us, rfl, nb, hvb, hs2⟩ := g2
  refine wpOp_of op_cat ⟨_, _, _, _, rfl, rfl, hva, hvb, by rw [hs1.len, hs2.len]; exact hz, fun p hp => ?_⟩
  have f12 := f1.trans f2
  have fr0 := f.trans (f12.lessW W.l)
  have np : nw p := (W.new p).2 (fr0.free (u2.lessW W.l) hp)
  have nup : w.u ≠ some p := fun z => by
    obtain ⟨x, y, z, e', _⟩ := u2.1 p z
    rw [hp] at e'; cases e'
  have q4 := q3 p np fun j k l e => by
    obtain ⟨v, _, hv⟩ := (sl.fr f12).2 j _ e
    rw [Hd.cell] at hv
    obtain ⟨_, _, _, us, hk, _⟩ := hv
    exact ne_of_none hk hp
  let w2 : TC.W := ⟨w.u, p :: w.ex, p :: w.ce, fun a h => (List.mem_cons.mp h).elim (fun e => by rw [e]; exact List.mem_cons_self ..) fun e => List.mem_cons_of_mem _ (w.sub a e)⟩
  have gr : Gr w w2 H2 := ⟨rfl, fun a ha => List.mem_cons_of_mem _ ha, fun a ha => by
    rcases List.mem_cons.mp ha with rfl | ha
    · exact .inr hp
    · exact .inl ha, fun a ha => List.mem_cons_of_mem _ ha⟩
  have u3 : UI w2 m2 (upd H2 p (.lst (vs ++ us))) := ⟨fun b e => (u2.upd (o := .lst (vs ++ us)) hp).1 b e, fun b hb => by
    rcases List.mem_cons.mp hb with rfl | hb
    · exact ⟨_, upd_same⟩
    · exact (u2.upd (o := .lst (vs ++ us)) hp).2 b hb⟩
  refine h.run w0 H0 w2 nw _ _ _ m2 nx rt Dn ⟨⟨W.l.u, fun a ha => List.mem_cons_of_mem _ (W.l.ex a ha)⟩, W.new, W.av⟩ (fr0.trans (Fr.upd hp)) ?_ u3 q4 c r
  refine ((((sl.fr f12).grow gr).fr (Fr.upd hp)).set i ?_)
  rw [Hd.cell]
  exact ⟨rfl, List.mem_cons_self .., nup, vs ++ us, upd_same, ((hs1.app hs2).grow gr).fr (Fr.upd hp)⟩
end
end TC
namespace TC
open PySem PySem.Spec PyProof.Rows L2
variable [Cl]
section
variable {X : Cx} {k : Nat} {g : Addr} {fd : FuncData} {ps : List Str} {sp : DSp}
/-- == of objects within a comprehension -/
theorem do_eqB (n : Nat) (c : EqO X.K (Cl.c n).1 g) (F : FnOk X.prog X.w X.K X.mg X.base CX0 k g fd ps (spD sp)) (hr : Room k X.A) (hb : Binds X.K fd ps []) (hK : X.K = Cl.K := by rfl) : DOp X (compareOp .Eq) (dEqO n false Cl.K sp) := hK ▸ do_eqO n c F hr hb hK
theorem do_neB (n : Nat) (c : EqO X.K (Cl.c n).1 g) (F : FnOk X.prog X.w X.K X.mg X.base CX0 k g fd ps (spD sp)) (hr : Room (k + 1) X.A) (hb : Binds X.K fd ps []) (hK : X.K = Cl.K := by rfl) : DOp X (compareOp .NotEq) (dEqO n true Cl.K sp) := hK ▸ do_neO n c F hr hb hK
end
end TC
namespace TC
open PySem PySem.Spec PyProof.Rows L2
variable [Cl]
theorem zip_none : ∀ {ns : List Str} {vs : List V} {f : Str}, f ∉ ns → (ns.zip vs).lookup f = none
  | [], _, _, _ => by simp
  | n :: ns, [], _, _ => rfl
  | n :: ns, v :: vs, f, h => by
    have hne : (f == n) = false := by
      rw [beq_eq_false_iff_ne]
      exact fun e => h (e ▸ List.mem_cons_self ..)
    show ((n, v) :: ns.zip vs).lookup f = none
    rw [List.lookup_cons, hne]
    exact zip_none fun z => h (List.mem_cons_of_mem _ z)
section
variable {X : Cx} {o e : Expr} {es : List Expr} {to : DE} {t : DA} {pos apos : Pos} {k : Nat} {g : Addr} {fd : FuncData} {ps : List Str} {sp : DSp} {m : Str} {pl : Sem Bool}
/-- o.m(..), a def of o's class -/
def dMeth (n : Nat) (sp : DSp) (to : DE) (t : DA) : DE := fun env mm Q => to env mm fun d m1 => ∃ l, d = .obj n l ∧ t env m1 fun ds m2 => sp (d :: ds) m2 Q
theorem de_meth (n : Nat) (ho : De X o to) (c : Cls X.K (Cl.c n).1) (hm : Meth X.K (Cl.c n).1 m g) (F : FnOk X.prog X.w X.K X.mg X.base CX0 k g fd ps (spD sp)) (hr : Room k X.A) (hb : Binds X.K fd ps []) (hl : m ∉ (Cl.c n).2) (ha : Da X (e :: es) t)
    (hst : starEach (e :: es) X.env = (false, eval e X.env) :: starEach es X.env := by rfl) (hpl : (backTo pos (starEach es X.env)).any (·.1) = false := by rfl)
    (ht : eval (.Call (.Attribute o m apos) (e :: es) [] pos) X.env = (do
      let ov ← eval o X.env
      standAt apos.atName
      let (f, first) ← holding [ov] (getMethod ov m pl)
      callWith pos f first (backTo pos (starEach (e :: es) X.env)) (backToKw pos (keywordEach [] X.env))) := by rfl) :
    De X (.Call (.Attribute o m apos) (e :: es) [] pos) (dMeth n sp to t) := by
  refine ⟨fun w σ H env mm Q' Q sl hu h k => wp_of (pe_meth pe_self c hm F hr hb .nil pass0 pa_self hst hpl ht) ?_⟩
  refine ho.run w σ H env mm _ _ sl hu h fun v d m1 H1 f1 u1 h1 q1 => ?_
  obtain ⟨l, rfl, q⟩ := q1
  have h2 := h1
  rw [Hd.obj] at h2
  obtain ⟨a, dx, vs, rfl, na, nd2, hd, hp, hds⟩ := h2
  refine ⟨a, dx, _, rfl, hp, zip_none hl, ?_⟩
  refine ha.run w σ H1 env m1 _ _ (sl.fr f1) u1 q fun us ds m2 H2 f2 u2 h3 q2 => ?_
  rw [List.append_nil]
  exact ⟨w, .obj n l :: ds, m2, _, .cons (h1.fr f2) h3, u2, q2, k.from (f1.trans f2)⟩
end
section
variable {X : Cx} {pos : Pos}
/-- a, b, c = [..] -/
def dgLst3 (i j k : Nat) : DG := fun d env Q => ∃ a b c, d = .lst [a, b, c] ∧ Q (((env.set i (some a)).set j (some b)).set k (some c))
theorem dg_lst3 {i j k : Nat} {x y z : Str} {px py pz : Pos} {kk : Nat} (hc : X.calm = true) (hN : X.N.Nodup) (hi : X.N[i]? = some x := by rfl) (hj : X.N[j]? = some y := by rfl) (hk : X.N[k]? = some z := by rfl)
    (hx : Loc X.env.scope x := by first | exact Or.inl rfl | exact Or.inr rfl) (hy : Loc X.env.scope y := by first | exact Or.inl rfl | exact Or.inr rfl) (hz : Loc X.env.scope z := by first | exact Or.inl rfl | exact Or.inr rfl)
    (hf : X.fn x = true ∨ X.env.scope.names.lookup x = some .local := by first | exact .inl rfl | exact .inr rfl | assumption) (hf2 : X.fn y = true ∨ X.env.scope.names.lookup y = some .local := by first | exact .inl rfl | exact .inr rfl | assumption) (hf3 : X.fn z = true ∨ X.env.scope.names.lookup z = some .local := by first | exact .inl rfl | exact .inr rfl | assumption)
    (hs1 : (assignEach [.Name x px, .Name y py, .Name z pz] X.env).map (·.2) = assign (.Name x px) X.env :: (assignEach [.Name y py, .Name z pz] X.env).map (·.2) := by rfl) (hs2 : (assignEach [.Name y py, .Name z pz] X.env).map (·.2) = assign (.Name y py) X.env :: (assignEach [.Name z pz] X.env).map (·.2) := by rfl)
    (hs3 : (assignEach [.Name z pz] X.env).map (·.2) = assign (.Name z pz) X.env :: (assignEach [] X.env).map (·.2) := by rfl)
    (hn : (assignEach [.Name x px, .Name y py, .Name z pz] X.env).length = 3 := by rfl) (hst : (assignEach [.Name x px, .Name y py, .Name z pz] X.env).findIdx? (·.1) = none := by rfl) :
    Dg X (.Tuple [.Name x px, .Name y py, .Name z pz] kk pos) [i, j, k] (dgLst3 i j k) := by
  refine ⟨fun w σ H env m v d Q' Q sl hu hd h c pins s u I r => (pg_lst hc (pgs_cons (pg_name hN hi hx hf) (pgs_cons (pg_name hN hj hy hf2) (pgs_cons (pg_name hN hk hz hf3) pgs_nil hs3) hs2) hs1) hn hst).run pins s σ H v u Q I r ?_⟩
  obtain ⟨a, b, d3, rfl, q⟩ := h
  rw [Hd.lst] at hd
  obtain ⟨p, vs, rfl, _, hp, hds⟩ := hd
  obtain ⟨v1, r1, rfl, h1, h2⟩ := hds.uncons
  obtain ⟨v2, r2, rfl, h3, h4⟩ := h2.uncons
  obtain ⟨v3, r3, rfl, h5, h6⟩ := h4.uncons
  cases h6.unnil
  refine ⟨p, _, rfl, SqL.of hp, rfl, v1, _, rfl, v2, _, rfl, v3, _, rfl, rfl, ?_⟩
  refine c _ _ (((sl.set i h1).set j h3).set k h5) (fun vs hvs => ?_) q
  rw [wipe_set (hvs k (by simp)), wipe_set (hvs j (by simp)), wipe_set (hvs i (by simp))]
end
end TC
namespace TC
open PySem PySem.Spec PyProof.Rows L2
variable [Cl]
/-! ### o.m(k = v), a def of o's class -/
section
variable {X : Cx} {o : Expr} {kws : List Keyword} {to : DE} {tk : DA} {pos apos : Pos} {k : Nat} {g : Addr} {fd : FuncData} {ps ks : List Str} {sp : DSp} {m : Str} {pl : Sem Bool} {gB : List Value → List Value → List Value} {gV : List V → List V → List V} {gD : D → List D → List D}
theorem de_methK (n : Nat) (ho : De X o to) (c : Cls X.K (Cl.c n).1) (hm : Meth X.K (Cl.c n).1 m g) (F : FnOk X.prog X.w X.K X.mg X.base CX0 k g fd ps (spD sp)) (hr : Room k X.A) (hb : KBn X.K fd ps 1 ks gB gV)
    (hgD : ∀ w H v d vs ds, vs.length = ks.length → Hd w H v d → Hds w H vs ds → Hds w H (gV [v] vs) (gD d ds)) (hl : m ∉ (Cl.c n).2) (hkw : Dk X kws tk)
    (ht : eval (.Call (.Attribute o m apos) [] kws pos) X.env = (do
      let ov ← eval o X.env
      standAt apos.atName
      let (f, first) ← holding [ov] (getMethod ov m pl)
      callWith pos f first (backTo pos (starEach [] X.env)) (backToKw pos (keywordEach kws X.env))) := by rfl)
    (hall : (backToKw pos (keywordEach kws X.env)).all (·.1.isSome) = true := by rfl) (hks : (backToKw pos (keywordEach kws X.env)).filterMap (·.1) = ks := by rfl)
    (hpl : ((backTo pos (starEach [] X.env)).any (·.1) || (backToKw pos (keywordEach kws X.env)).any (·.1.isNone)) = false := by rfl) :
    De X (.Call (.Attribute o m apos) [] kws pos) (fun env mm Q => to env mm fun d m1 => ∃ l, d = .obj n l ∧ tk env m1 fun ds m2 => ds.length = ks.length ∧ sp (gD (.obj n l) ds) m2 Q) := by
  refine ⟨fun w σ H env mm Q' Q sl hu h kk pins s I => ?_⟩
  refine PySem.W.methodCall_KW (pl := pl) (thn (ho.run w σ H env mm _ (fun v H1 => ∃ (a dx : Addr) (vs : List V) (l : List D) (m1 : Nat), v = .ref a ∧ H1 a = some (.ins (Cl.c n).1 dx ((Cl.c n).2.zip vs)) ∧ Hd w H1 (.ref a) (.obj n l) ∧ Fr w H H1 ∧ UI w m1 H1 ∧ tk env m1 fun ds m2 => ds.length = ks.length ∧ sp (gD (.obj n l) ds) m2 Q') sl hu h (fun v d m1 H1 f1 u1 h1 q1 => ?_) pins s I) fun u s1 ⟨y, H1, I1, ry, a, dx, vs, l, m1, ey, hpp, ho1, f1, u1, q1⟩ => ?_) ht
  · obtain ⟨l, rfl, q⟩ := q1
    have h2 := h1
    rw [Hd.obj] at h1
    obtain ⟨a, dx, vs, rfl, na, nd2, hd, hpp, hds⟩ := h1
    exact ⟨a, dx, vs, l, m1, rfl, hpp, h2, f1, u1, q⟩
  · subst ey
    obtain rfl : u = Value.ref a := ry
    refine getmeth_ok I1 hpp c hm (zip_none hl) ?_
    refine PySem.W.callWith_KW0 (first := [.ref a]) (h₀ := X.base) I1.ok.mod.kin hm.kp hall ?_ hpl
    refine thn (hkw.run w σ H1 env m1 _ (fun zs H2 => zs.length = ks.length ∧ spD sp (gV [.ref a] zs) H2 Q E0) (sl.fr f1) u1 q1 (fun us ds m2 H2 f2 u2 h3 q3 => ?_) pos pins s1 I1) fun ws s2 ⟨zs, H2, I2, rz, l2, q2⟩ => ⟨I2.kIn, ?_⟩
    · have hlen : us.length = ks.length := h3.len.trans q3.1
      exact ⟨hlen, w, gD (.obj n l) ds, m2, _, hgD w H2 _ _ us ds hlen (ho1.fr f2) h3, u2, q3.2, kk.from (f1.trans f2)⟩
    · rw [hks]
      exact run_fnN (us := [.ref a]) (vs := [.ref a]) F hr hb pass0 I2 (.cons rfl .nil) rz rfl l2 q2
end
end TC
namespace TC
open PySem PySem.Spec PyProof.Rows L2
variable [Cl]
section
variable {X : Cx} {pos : Pos}
/-- a, b, c, d = (..) -/
def dgTup4 (i j k l : Nat) : DG := fun d env Q => ∃ a b c e, d = .tup [a, b, c, e] ∧ Q ((((env.set i (some a)).set j (some b)).set k (some c)).set l (some e))
theorem dg_tup4 {i j k l : Nat} {x y z u : Str} {px py pz pu : Pos} {kk : Nat} (hc : X.calm = true) (hN : X.N.Nodup) (hi : X.N[i]? = some x := by rfl) (hj : X.N[j]? = some y := by rfl) (hk : X.N[k]? = some z := by rfl) (hl : X.N[l]? = some u := by rfl)
    (hx : Loc X.env.scope x := by first | exact Or.inl rfl | exact Or.inr rfl) (hy : Loc X.env.scope y := by first | exact Or.inl rfl | exact Or.inr rfl) (hz : Loc X.env.scope z := by first | exact Or.inl rfl | exact Or.inr rfl) (hu4 : Loc X.env.scope u := by first | exact Or.inl rfl | exact Or.inr rfl)
    (f1 : X.fn x = true ∨ X.env.scope.names.lookup x = some .local := by first | exact .inl rfl | exact .inr rfl | assumption) (f2 : X.fn y = true ∨ X.env.scope.names.lookup y = some .local := by first | exact .inl rfl | exact .inr rfl | assumption) (f3 : X.fn z = true ∨ X.env.scope.names.lookup z = some .local := by first | exact .inl rfl | exact .inr rfl | assumption) (f4 : X.fn u = true ∨ X.env.scope.names.lookup u = some .local := by first | exact .inl rfl | exact .inr rfl | assumption)
    (s1 : (assignEach [.Name x px, .Name y py, .Name z pz, .Name u pu] X.env).map (·.2) = assign (.Name x px) X.env :: (assignEach [.Name y py, .Name z pz, .Name u pu] X.env).map (·.2) := by rfl) (s2 : (assignEach [.Name y py, .Name z pz, .Name u pu] X.env).map (·.2) = assign (.Name y py) X.env :: (assignEach [.Name z pz, .Name u pu] X.env).map (·.2) := by rfl) (s3 : (assignEach [.Name z pz, .Name u pu] X.env).map (·.2) = assign (.Name z pz) X.env :: (assignEach [.Name u pu] X.env).map (·.2) := by rfl) (s4 : (assignEach [.Name u pu] X.env).map (·.2) = assign (.Name u pu) X.env :: (assignEach [] X.env).map (·.2) := by rfl)
    (hn : (assignEach [.Name x px, .Name y py, .Name z pz, .Name u pu] X.env).length = 4 := by rfl) (hst : (assignEach [.Name x px, .Name y py, .Name z pz, .Name u pu] X.env).findIdx? (·.1) = none := by rfl) (hK : X.K = Cl.K := by rfl) :
    Dg X (.Tuple [.Name x px, .Name y py, .Name z pz, .Name u pu] kk pos) [i, j, k, l] (dgTup4 i j k l) := by
  refine ⟨fun w σ H env m v d Q' Q sl hu hd h c pins s uu I r => (pg_tup hc (pgs_cons (pg_name hN hi hx f1) (pgs_cons (pg_name hN hj hy f2) (pgs_cons (pg_name hN hk hz f3) (pgs_cons (pg_name hN hl hu4 f4) pgs_nil s4) s3) s2) s1) hn hst).run pins s σ H v uu Q I r ?_⟩
  obtain ⟨a, b, d3, d4, rfl, q⟩ := h
  rw [Hd.tup] at hd
  obtain ⟨p, vs, rfl, hp, hds⟩ := hd
  obtain ⟨v1, r1, rfl, h1, h2⟩ := hds.uncons
  obtain ⟨v2, r2, rfl, h3, h4⟩ := h2.uncons
  obtain ⟨v3, r3, rfl, h5, h6⟩ := h4.uncons
  obtain ⟨v4, r4, rfl, h7, h8⟩ := h6.uncons
  cases h8.unnil
  refine ⟨p, _, rfl, hp.sq hK, rfl, v1, _, rfl, v2, _, rfl, v3, _, rfl, v4, _, rfl, rfl, ?_⟩
  refine c _ _ ((((sl.set i h1).set j h3).set k h5).set l h7) (fun vs hvs => ?_) q
  rw [wipe_set (hvs l (by simp)), wipe_set (hvs k (by simp)), wipe_set (hvs j (by simp)), wipe_set (hvs i (by simp))]
end
end TC
namespace TC
open PySem PySem.Spec PyProof.Rows L2
variable [Cl]
/-! ### dicts of texts by texts -/
abbrev dKs (l : List (Str × Str)) : List (Key × V) := l.map fun p => ((.inr p.1 : Key), V.str p.2)
def lookS (l : List (Str × Str)) (x : Str) : Option Str := (l.find? fun p => decide (p.1 = x)).map (·.2)
theorem valV_look (x : Str) : ∀ l : List (Str × Str), valV (dKs l) (.inr x : Key) = (lookS l x).map V.str
  | [] => rfl
  | p :: l => by
    have ih := valV_look x l
    unfold valV lookS at ih ⊢
    rw [dKs, List.map_cons, List.find?_cons, List.find?_cons]
    by_cases h : p.1 = x
    · have h2 : ((.inr p.1 : Key) = .inr x) := by rw [h]
      rw [decide_eq_true h, decide_eq_true h2]
      rfl
    · have h2 : ¬ ((.inr p.1 : Key) = .inr x) := fun e => h (Sum.inr.inj e)
      rw [decide_eq_false h, decide_eq_false h2]
      exact ih
section
variable {X : Cx} {a b i : Expr} {ta tb ti : DE} {p p2 q r pos : Pos}
/-- d[x], d a dict of texts by texts -/
def dGet (ta ti : DE) : DE := fun env m Q => ta env m fun d m1 => ∃ l, d = .dct l ∧ ti env m1 fun y m2 => ∃ x z, y = .str x ∧ lookS l x = some z ∧ Q (.str z) m2
theorem de_dget (hu : X.A.units + 1 < cLine) (ha : De X a ta) (hi : De X i ti) (hs : NoSl i := by intro ov iv; rfl) : De X (.Subscript a i pos) (dGet ta ti) := by
  refine ⟨fun w σ H env m Q' Q sl hu2 h k => wp_of (pe_dget hu pe_self pe_self hs) ?_⟩
  refine ha.run w σ H env m _ _ sl hu2 h fun v d m1 H1 f1 u1 h1 q1 => ?_
  obtain ⟨l, rfl, q1⟩ := q1
  refine hi.run w σ H1 env m1 _ _ (sl.fr f1) u1 q1 fun y dy m2 H2 f2 u2 h2 q2 => ?_
  obtain ⟨x, z, rfl, hl, q2⟩ := q2
  rw [Hd.str] at h2; subst h2
  have h3 := h1.fr f2
  unfold Hd at h3
  obtain ⟨c, rfl, n, hc⟩ := h3
  refine ⟨c, V.str z, rfl, ?_, k _ _ _ _ (f1.trans f2) u2 (Hd.str.mpr rfl) q2⟩
  have g := DGet.k (k := (.inr x : Key)) hc
  rw [valV_look, hl] at g
  exact g
/-- dict(zip(xs, ys)), two lists of texts -/
def dDictZip (t : DA) : DE := fun env m Q => t env m fun ds m1 => ∃ xs ys : List Str, ds = [.lst (xs.map D.str), .lst (ys.map D.str)] ∧ xs.Nodup ∧ xs.length = ys.length ∧ xs.length ≤ 1000 ∧ Q (.dct (xs.zip ys)) m1
theorem hds_strs_eq {w : W} {H : Hp} {vs : List V} {xs : List Str} (h : Hds w H vs (xs.map D.str)) : vs = xs.map V.str := by
  have := h.flat (by rw [List.all_eq_true]; intro d hd; obtain ⟨b, _, rfl⟩ := List.mem_map.mp hd; rfl)
  have e2 : (xs.map D.str).map fv = xs.map V.str := by rw [List.map_map]; rfl
  rw [e2] at this
  exact this
theorem merged_new : ∀ (l acc : List (Key × Value)), (l.map (·.1)).Nodup → (∀ k ∈ l.map (·.1), k ∉ acc.map (·.1)) → merged acc l = acc ++ l
  | [], acc, _, _ => by simp [merged]
  | x :: l, acc, nd, dis => by
    rw [List.map_cons] at nd dis
    have nd1 := List.nodup_cons.mp nd
    have e : stored acc x.1 x.2 = acc ++ [x] := by
      unfold stored
      rw [if_neg]
      intro h
      obtain ⟨y, hy, e⟩ := List.any_eq_true.mp h
      exact dis x.1 (List.mem_cons_self ..) (List.mem_map.mpr ⟨y, hy, of_decide_eq_true e⟩)
    have : merged acc (x :: l) = merged (stored acc x.1 x.2) l := rfl
    rw [this, e, merged_new l (acc ++ [x]) nd1.2 fun k hk z => ?_, List.append_assoc]
    · rfl
    · rw [List.map_append, List.mem_append] at z
      rcases z with z | z
      · exact dis k (List.mem_cons_of_mem _ hk) z
      · have : k = x.1 := by simpa using z
        exact nd1.1 (this ▸ hk)
theorem vals_str : ∀ {l : List Str} {us : List Value}, Vals (l.map V.str) us → ∀ (i : Nat) (u : Value), us[i]? = some u → ∃ x t, l[i]? = some x ∧ u = .str x t
  | [], _, .nil, i, u, h => by simp at h
  | x :: l, _, .cons r t, 0, u, h => by
    simp only [List.getElem?_cons_zero, Option.some.injEq] at h
    subst h
    obtain ⟨tk, e⟩ := r
    exact ⟨x, tk, rfl, e⟩
  | x :: l, _, .cons r t, i + 1, u, h => by
    simp only [List.getElem?_cons_succ] at h ⊢
    exact vals_str t i u h
theorem kv_zip : ∀ {xs ys : List Str} {us : List Value}, Vals (ys.map V.str) us → KV (dKs (xs.zip ys)) ((xs.map fun x => (.inr x : Key)).zip us)
  | [], _, _, _ => .nil
  | _ :: _, [], _, .nil => .nil
  | x :: xs, y :: ys, _, .cons r t => .cons ⟨rfl, r⟩ (kv_zip t)
theorem de_dictzip {t : DA} (hm : X.mg "dict" = none) (hm2 : X.mg "zip" = none) (hab : Da X [a, b] t) (hc : X.calm = true := by rfl) (hg : Gl X "dict" := by rfl) (hg2 : Gl X "zip" := by rfl)
    (hs : starEach [a, b] X.env = (false, eval a X.env) :: starEach [b] X.env := by rfl) (hpl : (backTo q (starEach [b] X.env)).any (·.1) = false := by rfl) :
    De X (.Call (.Name "dict" p) [.Call (.Name "zip" p2) [a, b] [] q] [] r) (dDictZip t) := by
  refine ⟨fun w σ H env m Q' Q sl hu h k pins s I => ?_⟩
  refine Call_ (ld_blt I hg hm PyProof.Rows.boot_dict ?_)
  refine PyProof.Rows.callWith_type1 (PyProof.Rows.args_cons ?_ rfl) rfl rfl
  refine Call_ (ld_blt I hg2 hm2 PyProof.Rows.boot_zip ?_)
  refine PyProof.Rows.callWith_type1 (thn (hab.run w σ H env m _
      (fun vs H1 => ∃ (l1 l2 : Addr) (xs ys : List Str) (m1 : Nat), vs = [.ref l1, .ref l2] ∧ SqL X.K H1 l1 (xs.map V.str) ∧ SqL X.K H1 l2 (ys.map V.str) ∧ xs.Nodup ∧ xs.length = ys.length ∧ xs.length ≤ 1000 ∧ Fr w H H1 ∧ UI w m1 H1 ∧ Q' (.dct (xs.zip ys)) m1) sl hu h (fun vs ds m2 H2 f2 u2 h2 q2 => ?_) q pins s I) fun us s1 ⟨vs, H1, I1, r1, q1⟩ => ?_) hs hpl
  · obtain ⟨xs, ys, rfl, nx, hl, hn, q3⟩ := q2
    obtain ⟨v1, r1, rfl, h3, h4⟩ := h2.uncons
    obtain ⟨v2, r2, rfl, h5, h6⟩ := h4.uncons
    cases h6.unnil
    rw [Hd.lst] at h3 h5
    obtain ⟨l1, vs1, rfl, _, hp1, hd1⟩ := h3
    obtain ⟨l2, vs2, rfl, _, hp2, hd2⟩ := h5
    have e1 := hds_strs_eq hd1
    have e2 := hds_strs_eq hd2
    subst e1; subst e2
    exact ⟨l1, l2, xs, ys, m2, rfl, SqL.of hp1, SqL.of hp2, nx, hl, hn, f2, u2, q3⟩
  · obtain ⟨l1, l2, xs, ys, m1, rfl, hq1, hq2, nx, hl, hn, f1, u1, q3⟩ := q1
    cases r1 with
    | cons ra rb =>
    cases rb with
    | cons rc rd =>
    cases rd
    cases ra
    cases rc
    obtain ⟨its, rv, p1, _⟩ := I1.list hq1
    obtain ⟨its2, rv2, p3, _⟩ := I1.list hq2
    refine call_zip_2 p1.isList p3.isList fun h' hz hTI hTO h1 h2 hsz hk => ?_
    refine PyProof.Rows.args_nil ?_
    have la : l1 < s1.heap.objs.size := p1.lt
    have lb : l2 < s1.heap.objs.size := p3.lt
    have len1 : its.length = xs.length := by rw [← rv.length, List.length_map]
    have len2 : its2.length = ys.length := by rw [← rv2.length, List.length_map]
    have D := PySem.W.ktu_apart s1.heap.objs.size l1 l2 la lb
    have hkeys : (((xs.map fun x => (.inr x : Key)).zip its2).map (·.1)) = xs.map fun x => (.inr x : Key) := by
      rw [List.map_fst_zip]
      rw [List.length_map, len2, hl]
      exact Nat.le_refl _
    have nkeys : (xs.map fun x => (.inr x : Key)).Nodup := by
      rw [List.nodup_iff_pairwise_ne] at nx ⊢
      rw [List.pairwise_map]
      exact nx.imp fun h e => h (Sum.inr.inj e)
    refine call_dict_pairs (s := { s1 with heap := h' }) (knd := mixKind X.prog X.w) (kvs := (xs.map fun x => (.inr x : Key)).zip its2) (PairArg.zip _ _ _ _ _ l1 l2 D its.toArray its2.toArray) (I1.ok.hd hc) ⟨hz, hTI, ⟨_, _, hTO⟩, h1, h2, p1.isList.at fun o e => hk _ o e, p3.isList.at fun o e => hk _ o e⟩ ⟨?_, ?_⟩ ?_ fun h3 tk hd' hk2 => ?_
    · rw [List.length_zip, List.length_map, List.size_toArray, List.size_toArray, len1]
    · rintro i key v ⟨e1, e2⟩
      rw [List.getElem?_toArray] at e1 e2
      obtain ⟨x, t, ex, rfl⟩ := vals_str rv i key e1
      refine ⟨.inr x, ?_, strKind_is X.prog X.w x t⟩
      rw [List.getElem?_zip_eq_some]
      exact ⟨by rw [List.getElem?_map, ex]; rfl, e2⟩
    · rw [List.size_toArray, List.size_toArray, len1]
      exact Nat.le_trans (Nat.min_le_left _ _) (Nat.le_trans hn (by decide))
    · rw [merged_new _ [] (by rw [hkeys]; exact nkeys) (fun _ _ z => by cases z), List.nil_append] at hd'
      have kk : ∀ b u, s1.heap.get? b = some u → h3.get? b = some u := fun b u e => by
        refine hk2 b u (fun z => ?_) (hk b u e)
        have := Heap.lt_size e
        simp only [List.mem_cons, List.not_mem_nil, or_false] at z
        rcases z with rfl | rfl | rfl | rfl
        · exact absurd this (Nat.not_lt.mpr (Nat.le_add_right _ _))
        · exact absurd this (Nat.not_lt.mpr (Nat.le_add_right _ _))
        · exact absurd this (Nat.lt_irrefl _)
        · exact absurd this (Nat.not_lt.mpr (Nat.le_add_right _ _))
      have sz : s1.heap.objs.size ≤ h'.objs.size := by omega
      have new : ObjOk X.prog X.w (upd H1 h'.objs.size (.dK (dKs (xs.zip ys)))) h3 h'.objs.size (.dK (dKs (xs.zip ys))) := by
        refine dk_new ?_ ?_ (kv_zip rv2) hd'
        · rw [List.length_map, List.length_zip]
          exact Nat.le_trans (Nat.min_le_left _ _) (Nat.le_trans hn (by decide))
        · exact beq_eq_false_iff_ne.mpr (Ne.symm (Nat.ne_of_lt (Nat.lt_of_lt_of_le I1.big sz)))
      have free : H1 h'.objs.size = none := I1.hok.fresh sz
      have J := I1.laid (t' := tk) kk sz new
      refine ⟨.ref h'.objs.size, _, J, rfl, k _ _ m1 _ (f1.trans (Fr.upd free)) (u1.upd free) ?_ q3⟩
      unfold Hd
      exact ⟨_, rfl, u1.new free, upd_same⟩
end
end TC
namespace TC
open PySem PySem.Spec PyProof.Rows L2
variable [Cl]
section
variable {prog : Program} {w : World} {A : Around} {R : Result → Shared → Prop} {E : Value → Shared → Prop} {J : Addr} {fp wr : List Addr} {G : Array GenState → Array GenState → Prop} {n : Nat} {P : Nat → Value → Prop} {St : Nat → Shared → Prop} {s : Shared}
set_option maxHeartbeats 3200000 in
/-- set(a tuple of texts) -/
theorem zset_of_tuple {l : Addr} {its : Array Value} {xs : List Str} {Q : Value → Shared → Prop} (calm : A.handled = none) (hl : s.heap.IsTuple l its) (hv : StrsAre its.toList xs) (hn : xs.length ≤ 4000)
    (fin : ∀ (h' : Heap) (tk : Nat), ZSet w h' s.heap.objs.size (fun z => xs.any (· == z)) (cnt xs its.size) → (∀ b o, b < s.heap.objs.size → s.heap.get? b = some o → h'.get? b = some o) → Q (.ref s.heap.objs.size) { s with heap := h', toks := tk }) :
    wpAny (model prog w) A (call (.type "set") [.ref l]) Q E s := by
  obtain ⟨c, tl, hmro⟩ := PySem.F.called_set.mro
  have k1 := PySem.F.called_set.made
  have k2 := PySem.F.called_set.sub
  refine wpAny_call (codeAny_of_tree ?_)
  refine wpAny_pure ⟨Code.quiet_builtin _ (by decide +kernel), codeAny_builtin PySem.F.entry_type_call ?_⟩
  rw [Around.under_plain (weight_type_call_type "set" [.ref l] []) rfl]
  have k3 := PySem.F.called_set.notType
  have k4 := PySem.F.called_set.canCreate
  have k5 := PySem.F.typeCall_set_1 (.ref l)
  repeat (any_goals (first | assumption | wp_step))
  refine codeAny_mono (code_bare (.ref l) (E := E) (Q1 := fun obj s1 => obj = .ref s.heap.objs.size ∧ s1 = { s with heap := s.heap.push (bareSet w) }) ⟨rfl, rfl⟩) fun r s1 hr => ?_
  match r, hr with
  | .error e, hr => exact hr
  | .ok (.ret obj), hr =>
    obtain ⟨rfl, rfl⟩ := hr
    have at0 : (s.heap.push (bareSet w)).get? s.heap.objs.size = some (bareSet w) := Heap.get?_push_size _ rfl
    have ty0 : Shared.TypeIs { s with heap := s.heap.push (bareSet w) } (.ref s.heap.objs.size) "set" := ⟨_, at0, rfl⟩
    have k6 := PySem.F.called_set.init.lookup
    have k7 := PySem.F.called_set.init.bind (.ref s.heap.objs.size)
    repeat (any_goals (first | assumption | wp_step))
    refine codeAny_mono (codeAny_call_builtin (R := wants (fun r s2 => r = .none ∧ ∃ h' tk, s2 = { s with heap := h', toks := tk } ∧ ZSet w h' s.heap.objs.size (fun z => xs.any (· == z)) (cnt xs its.size) ∧ (∀ b o, b < s.heap.objs.size → s.heap.get? b = some o → h'.get? b = some o)) E)
      PySem.F.called_set.init.plain PySem.F.entry_set_init (check_set_init_1 ty0 ?_)) fun r2 s2 hr2 => ?_
    · obtain ⟨⟨cl, di, da, sl⟩, hol, hcl, nl, hdl⟩ := hl
      simp only at hcl hdl
      subst hcl; subst hdl
      have hol2 : (s.heap.push (bareSet w)).get? l = some { cls := .type "tuple", dict := di, data := .seq its nl, slots := sl } := Heap.get?_push_of_some _ hol
      have q1 := PySem.F.sub_tuple_set
      have q2 := PySem.F.sub_tuple_frozenset
      have q3 : (Value.type "tuple" == Value.type "dict") = false := by decide
      have hl2 : (s.heap.push (bareSet w)).IsTuple l its := ⟨_, hol2, rfl, nl, rfl⟩
      have lt : l < s.heap.objs.size := Heap.lt_size hol
      have two : (s.heap.push (bareSet w)).objs.size = s.heap.objs.size + 1 := Heap.size_push ..
      unfold Builtin.«set.__init__» noKeywords Builtin.Frozenset.updateFrom
      generalize hPI : pyIter = PI
      wp_walk
      subst hPI
      refine wpAny_pyIter_tuple hl2 (wpAny_bind (wpAny_runValue ?_))
      have still : A.in1.in1.in1.handled = none := by simp [calm]
      have lI : l ≠ (s.heap.push (bareSet w)).objs.size := by rw [two]; exact Nat.ne_of_lt (Nat.lt_succ_of_lt lt)
      have out : s.heap.objs.size ∉ [(s.heap.push (bareSet w)).objs.size, l] := by
        rw [two]
        simp only [List.mem_cons, List.not_mem_nil, or_false, not_or]
        exact ⟨Nat.ne_of_lt (Nat.lt_succ_self _), Nat.ne_of_gt lt⟩
      have hx : xs.length = its.size := by rw [← StrsAre.len_eq hv, Array.length_toList]
      refine zset_turns ((Walks.tuple still _ l lI its).toS) s.heap.objs.size out xs hx (by omega) (fun i v e => SS.strs_at hv i v (by rw [Array.getElem?_toList]; exact e)) its.size 0 _ (by omega) ⟨⟨_, Heap.get?_push_size _ rfl, rfl, rfl⟩, hl2.push _⟩ ?_ ?_
      · exact (zset_bare w s.heap).moves fun o e => Heap.get?_push_of_some _ e
      · rintro ⟨h', g', d', tk', os'⟩ mv hS
        obtain rfl : g' = s.gens := mv.gens
        obtain rfl : d' = s.drawn := mv.drawn
        obtain rfl : os' = s.os := mv.os
        have hS : ZSet w h' s.heap.objs.size (fun z => xs.any (· == z)) (cnt xs its.size) := by
          rw [← hx, List.take_length] at hS
          rw [← hx]
          exact hS
        show wpAny _ _ _ _ _ _
        refine wpAny_pure (wpAny_pure ⟨rfl, h', tk', rfl, hS, fun b o hb e => ?_⟩)
        refine mv.heap b o ?_ (Heap.get?_push_of_some _ (Heap.get?_push_of_some _ e))
        rw [two]
        simp only [List.mem_cons, List.not_mem_nil, or_false, not_or]
        exact ⟨Nat.ne_of_lt hb, Nat.ne_of_lt (Nat.lt_succ_of_lt hb)⟩
    · match r2, hr2 with
      | .error e, hr2 => exact hr2
      | .ok (.ret r), hr2 =>
        obtain ⟨rfl, h', tk, rfl, hS, hk⟩ := hr2
        repeat (any_goals (first | assumption | wp_step))
        exact fin _ _ hS hk
      | .ok .next, hr2 => exact hr2.elim
      | .ok .brk, hr2 => exact hr2.elim
      | .ok .cont, hr2 => exact hr2.elim
  | .ok .next, hr => exact hr.elim
  | .ok .brk, hr => exact hr.elim
  | .ok .cont, hr => exact hr.elim
end
/-! ### sorted(set(e)), as data -/
section
variable {X : Cx} {a : Expr} {te : DE} {p p2 q r : Pos}
def dSortSetT (te : DE) : DE := fun env m Q => te env m fun d m1 => ∃ xs : List Str, d = .tup (xs.map D.str) ∧ xs.length < 64 ∧ ∀ ys : List Str, ys.Nodup → (∀ z, z ∈ ys ↔ z ∈ xs) → sortedS ys = true → Q (.lst (ys.map D.str)) m1
theorem de_sortsetT (hm : X.mg "sorted" = none) (hm2 : X.mg "set" = none) (ha : De X a te) (hc : X.calm = true := by rfl) (hg : Gl X "sorted" := by rfl) (hg2 : Gl X "set" := by rfl) (na : starEach [a] X.env = (false, eval a X.env) :: starEach [] X.env := by rfl) (hK : X.K = Cl.K := by rfl) :
    De X (.Call (.Name "sorted" p) [.Call (.Name "set" p2) [a] [] q] [] r) (dSortSetT te) := by
  refine ⟨fun w σ H env m Q' Q sl hu h k pins s I => ?_⟩
  refine Call_ (ld_blt I hg hm boot_sorted ?_)
  refine PyProof.Rows.callWith_builtin1 (PyProof.Rows.args_cons ?_ rfl) rfl rfl
  refine Call_ (ld_blt I hg2 hm2 boot_set ?_)
  have got := ha.run w σ H env m _ (fun v H1 => ∃ (l : Addr) (xs : List Str) (m1 : Nat), v = .ref l ∧ SqT X.K H1 l (xs.map V.str) ∧ xs.length < 64 ∧ Fr w H H1 ∧ UI w m1 H1 ∧ ∀ ys : List Str, ys.Nodup → (∀ z, z ∈ ys ↔ z ∈ xs) → sortedS ys = true → Q' (.lst (ys.map D.str)) m1) sl hu h (fun v d m1 H1 f1 u1 h1 q1 => by
    obtain ⟨xs, rfl, hl, q1⟩ := q1
    rw [Hd.tup] at h1
    obtain ⟨l, vs, rfl, hp, hds⟩ := h1
    have := hds.flat (by rw [List.all_eq_true]; intro d hd; obtain ⟨b, _, rfl⟩ := List.mem_map.mp hd; rfl)
    have e2 : (xs.map D.str).map fv = xs.map V.str := by rw [List.map_map]; rfl
    rw [e2] at this
    subst this
    exact ⟨l, xs, m1, rfl, hp.sq hK, hl, f1, u1, q1⟩) pins s I
  refine PyProof.Rows.callWith_type1 (PyProof.Rows.args_cons (thn got fun v s1 ⟨x, H1, I1, r1, q1⟩ => PyProof.Rows.args_nil ?_) na) na rfl
  obtain ⟨l, xs, m1, rfl, hq, hl, f1, u1, q1⟩ := q1
  cases r1
  obtain ⟨its, rv, pl, hz⟩ := I1.tuple hq
  have size : its.toArray.size = xs.length := by rw [List.size_toArray, ← rv.length, List.length_map]
  refine zset_of_tuple (I1.ok.hd hc) pl (by simpa using strsAre_of rv) (by omega) fun h' tk hS hk => ?_
  refine PyProof.Rows.args_nil ?_
  rw [size] at hS
  have I2 : Inv X pins σ H1 { s1 with heap := h', toks := tk } := I1.kept fun b o e => hk b o (Heap.lt_size e) e
  have small := cnt_le xs xs.length
  have hS : ZSet X.w ({ s1 with heap := h', toks := tk } : Shared).heap s1.heap.objs.size (fun z => xs.any (· == z)) (cnt xs xs.length) := hS
  generalize ({ s1 with heap := h', toks := tk } : Shared) = s2 at I2 hS
  refine zset_sorted (s := s2) hS (I2.ok.hd hc) (by omega) fun s' p o c zs kk g1 o1 hp at_ a1 a3 nd mem hlen => ?_
  have room : (zs.map V.str).length ≤ sizeLine := by rw [List.length_map, hlen, sizeLine_eq]; omega
  have free : H1 p = none := I2.hok.fresh hp
  have J : Inv X pins σ (upd H1 p (.lst (zs.map V.str))) { s2 with heap := s'.heap, gens := s'.gens, drawn := s'.drawn, toks := s'.toks } :=
    I2.call (ch := []) (Un.laid kk hp free) (I2.hok.laid kk hp ⟨room, o.toList, c, vals_of_strs a1, at_⟩) (by rw [g1]; exact I2.bare) (fun _ z => nomatch z)
  have e : s' = { s2 with heap := s'.heap, gens := s'.gens, drawn := s'.drawn, toks := s'.toks } := by
    cases s'
    cases s2
    cases o1
    rfl
  rw [e]
  refine ⟨.ref p, _, J, rfl, k _ _ m1 _ (f1.trans (Fr.upd free)) (u1.upd free) (new_lst u1 (hds_strs zs) free) (q1 zs nd (fun z => ?_) a3)⟩
  rw [mem z, List.any_eq_true]
  constructor
  · rintro ⟨y, hy, e⟩
    rw [← beq_iff_eq.mp e]
    exact hy
  · exact fun hz => ⟨z, hz, beq_self_eq_true z⟩
end
end TC
namespace TC
open PySem PySem.Spec PyProof.Rows L2
variable [Cl]
theorem hds_ints_eq {w : W} {H : Hp} {vs : List V} {xs : List Int} (h : Hds w H vs (xs.map D.int)) : vs = xs.map V.int := by
  have := h.flat (by rw [List.all_eq_true]; intro d hd; obtain ⟨b, _, rfl⟩ := List.mem_map.mp hd; rfl)
  have e2 : (xs.map D.int).map fv = xs.map V.int := by rw [List.map_map]; rfl
  rw [e2] at this
  exact this
section
variable {X : Cx}
theorem dc_sum (hc : X.calm = true) : DCall X (.builtin "sum") (fun ds m Q => ∃ ns : List Int, ds = [.lst (ns.map D.int)] ∧ Q (.int ns.sum) m) := by
  refine ⟨fun w H m vs ds Q' Q hu hs h c => ?_⟩
  obtain ⟨ns, rfl, q⟩ := h
  obtain ⟨v, r0, rfl, h1, h2⟩ := hs.uncons
  cases h2.unnil
  rw [Hd.lst] at h1
  obtain ⟨a, ws, rfl, na, ha, hds⟩ := h1
  have ew := hds_ints_eq hds
  subst ew
  exact wpC_of (cr_sum hc) ⟨a, ns, rfl, SqL.of ha, c _ _ _ _ (Fr.refl _ _) hu (Hd.int.mpr rfl) q⟩
theorem dc_min1 (hc : X.calm = true) : DCall X (.builtin "min") (fun ds m Q => ∃ ns : List Int, ds = [.lst (ns.map D.int)] ∧ 0 < ns.length ∧ ∀ x, x ∈ ns → (∀ y, y ∈ ns → x ≤ y) → Q (.int x) m) := by
  refine ⟨fun w H m vs ds Q' Q hu hs h c => ?_⟩
  obtain ⟨ns, rfl, h0, q⟩ := h
  obtain ⟨v, r0, rfl, h1, h2⟩ := hs.uncons
  cases h2.unnil
  rw [Hd.lst] at h1
  obtain ⟨a, ws, rfl, na, ha, hds⟩ := h1
  have ew := hds_ints_eq hds
  subst ew
  exact wpC_of (cr_min hc) ⟨a, ns, rfl, SqL.of ha, h0, fun x h1 h2 => c _ _ _ _ (Fr.refl _ _) hu (Hd.int.mpr rfl) (q x h1 h2)⟩
theorem op_notInDT (hu : X.A.units + 64 < cLine) : OpR X (compareOp .NotIn) (fun x y H Q => ∃ d ds, L2.Dp X.K H x d ∧ L2.Dp X.K H y (.tuple ds) ∧ SeqAt.shaped d = true ∧ SeqAt.shaped (.tuple ds) = true ∧ d.depth ≤ 60 ∧ Q (.bl (!ds.any fun z => PyData.eqv z d)) H) := by
  intro pins s σ H x y v u Q I rx ry h
  obtain ⟨d, ds, hd, he, sd, se, dp, q⟩ := h
  obtain ⟨as, r1⟩ := L2.Dp.reads I d x v hd rx
  obtain ⟨bs, r2⟩ := L2.Dp.reads I (.tuple ds) y u he ry
  exact SeqAt.notIn_tuple_reads r2 r1 (SeqAt.canLay_of_shaped se) (SeqAt.canLay_of_shaped sd) (by have := Nat.min_le_right (PyData.depthAll ds) d.depth; omega) ⟨.bl _, H, I, rfl, q⟩
theorem pyL_map : ∀ l : List D, pyL l = l.map py
  | [] => rfl
  | d :: l => by rw [pyL, pyL_map l]; rfl
theorem do_notinD (hu : X.A.units + 64 < cLine) (hK : X.K = Cl.K := by rfl) : DOp X (compareOp .NotIn) (fun x y m Q => ∃ l, y = .tup l ∧ tidy 60 x = true ∧ tidy 60 (.tup l) = true ∧ Q (.bl (!l.any fun z => eqD z x)) m) := by
  refine ⟨fun w H m x y dx dy Q' Q hu' hx hy h c => ?_⟩
  obtain ⟨l, rfl, h1, h2, q⟩ := h
  have s1 := tidy_shaped h1 (by decide)
  have s2 := tidy_shaped h2 (by decide)
  refine wpOp_of (op_notInDT hu) ⟨_, _, hx.dp hK s1.1, hy.dp hK s2.1, s1.2, s2.2, (by simp only [tidy, Bool.and_eq_true, decide_eq_true_eq] at h1; exact h1.2), c _ _ _ _ (Fr.refl _ _) hu' (Hd.bl.mpr rfl) ?_⟩
  have e : (pyL l).any (fun z => PyData.eqv z (py dx)) = l.any fun z => eqD z dx := by rw [pyL_map, List.any_map]; rfl
  rw [e]
  exact q
end
end TC
namespace TC
open PySem PySem.Spec PyProof.Rows L2
variable [Cl]
section
variable {X : Cx} {rest : List Stmt} {um : DM} {e e2 : Expr} {te te2 : DE} {pos : Pos}
/-- x, y, z = (e, e2, []): the third one is filled later -/
def dmPar3O (i j k : Nat) (te te2 : DE) (u : DM) : DM := fun nw nx rt env m => te env m fun d m1 => te2 env m1 fun d2 m2 => ∀ p, nw p → (∀ (j' : Nat) (c : Addr) (l : List D), env[j']? = some (some (.cell c l)) → c ≠ p) →
  u nw nx rt (((env.set i (some d)).set j (some d2)).set k (some (.cell p []))) m2
theorem dmT_par3o {i j k : Nat} {x y z : Str} {px py pz pt l2 : Pos} {kt k2 pt2} (hc : X.calm = true) (hN : X.N.Nodup) (ha : De X e te) (hb : De X e2 te2) (hr : DmT X rest um) (hi : X.N[i]? = some x := by rfl) (hj : X.N[j]? = some y := by rfl) (hk : X.N[k]? = some z := by rfl) (hij : i ≠ j := by decide) (hik : i ≠ k := by decide) (hjk : j ≠ k := by decide)
    (hx : X.env.scope.names.lookup x = some .local := by rfl) (hy : X.env.scope.names.lookup y = some .local := by rfl) (hz : X.env.scope.names.lookup z = some .local := by rfl)
    (hw : swappedStores [.Tuple [.Name x px, .Name y py, .Name z pz] kt pt] (.Tuple [e, e2, .List [] l2] k2 pt2) X.env = pure (some [x, y, z]) := by rfl)
    (hs : swapsWithSole [.Tuple [.Name x px, .Name y py, .Name z pz] kt pt] (.Tuple [e, e2, .List [] l2] k2 pt2) pos.line X.env = pure false := by rfl)
    (g1 : starEach [e, e2, .List [] l2] X.env = (false, eval e X.env) :: starEach [e2, .List [] l2] X.env := by rfl)
    (g2 : starEach [e2, .List [] l2] X.env = (false, eval e2 X.env) :: starEach [.List [] l2] X.env := by rfl)
    (g3 : starEach [.List [] l2] X.env = (false, eval (.List [] l2) X.env) :: starEach [] X.env := by rfl) :
    DmT X (.Assign [.Tuple [.Name x px, .Name y py, .Name z pz] kt pt] (.Tuple [e, e2, .List [] l2] k2 pt2) pos :: rest) (dmPar3O i j k te te2 um) := by
  refine ⟨fun w0 H0 w nw σ H env m nx rt Dn W f sl hu q c r => wpSs_of (pss_cons (ps_par3 hc hN hi hj hk hij hik hjk hx hy hz (pa_cons pe_self (pa_cons pe_self (pa_cons (pe_lst pa_nil) pa_nil g3) g2) g1) hw hs) pss_self) ?_⟩
  refine ha.run w σ H env m _ _ sl hu q fun v1 d m1 H1 f1 u1 h1 q1 => ?_
  refine hb.run w σ H1 env m1 _ _ (sl.fr f1) u1 q1 fun v2 d2 m2 H2 f2 u2 h2 q2 => ?_
  refine ⟨Nat.zero_le _, fun p hp => ?_⟩
  refine ⟨_, _, _, rfl, ?_⟩
  have f12 := f1.trans f2
  have fr0 := f.trans (f12.lessW W.l)
  have np : nw p := (W.new p).2 (fr0.free (u2.lessW W.l) hp)
  have q3 := q2 p np fun j' c l e => by
    obtain ⟨v, _, hv⟩ := (sl.fr f12).2 j' _ e
    rw [Hd.cell] at hv
    obtain ⟨_, _, _, us, hk, _⟩ := hv
    exact ne_of_none hk hp
  have u3 := TC.W.cell_ui u2 hp
  have gr1 := TC.W.cell_gr (w := w) hp
  refine hr.run w0 H0 (w.cell p) nw _ _ _ m2 nx rt Dn ⟨⟨W.l.u, fun a ha => List.mem_cons_of_mem _ (W.l.ex a ha)⟩, W.new, W.av⟩ (fr0.trans (Fr.upd hp)) ?_ u3 q3 c r
  have s2 := (((sl.fr f12).grow gr1).fr (Fr.upd (o := .lst []) hp))
  have d1' := (((h1.fr f2).grow gr1).fr (Fr.upd (o := .lst []) hp))
  have d2' := ((h2.grow gr1).fr (Fr.upd (o := .lst []) hp))
  exact ((s2.set i d1').set j d2').set k (TC.W.cell_hd u2 hp)
/-- x, y = (e, []) -/
def dmPar2B (i j : Nat) (te : DE) (u : DM) : DM := fun nw nx rt env m => te env m fun d m1 => ∀ p, nw p → (∀ (j' : Nat) (c : Addr) (l : List D), env[j']? = some (some (.cell c l)) → c ≠ p) →
  u nw nx rt ((env.set i (some d)).set j (some (.cell p []))) m1
theorem dmT_par2b {i j : Nat} {x y : Str} {px py pt l2 : Pos} {kt k2 pt2} (hc : X.calm = true) (hN : X.N.Nodup) (ha : De X e te) (hr : DmT X rest um) (hi : X.N[i]? = some x := by rfl) (hj : X.N[j]? = some y := by rfl) (hij : i ≠ j := by decide)
    (hx : X.env.scope.names.lookup x = some .local := by rfl) (hy : X.env.scope.names.lookup y = some .local := by rfl)
    (hw : swappedStores [.Tuple [.Name x px, .Name y py] kt pt] (.Tuple [e, .List [] l2] k2 pt2) X.env = pure (some [x, y]) := by rfl)
    (hs : swapsWithSole [.Tuple [.Name x px, .Name y py] kt pt] (.Tuple [e, .List [] l2] k2 pt2) pos.line X.env = pure false := by rfl)
    (g2 : starEach [e, .List [] l2] X.env = (false, eval e X.env) :: starEach [.List [] l2] X.env := by rfl)
    (g3 : starEach [.List [] l2] X.env = (false, eval (.List [] l2) X.env) :: starEach [] X.env := by rfl) :
    DmT X (.Assign [.Tuple [.Name x px, .Name y py] kt pt] (.Tuple [e, .List [] l2] k2 pt2) pos :: rest) (dmPar2B i j te um) := by
  refine ⟨fun w0 H0 w nw σ H env m nx rt Dn W f sl hu q c r => wpSs_of (pss_cons (ps_par hc hN hi hj hij hx hy (pa_cons pe_self (pa_cons (pe_lst pa_nil) pa_nil g3) g2) hw hs) pss_self) ?_⟩
  refine ha.run w σ H env m _ _ sl hu q fun v1 d m1 H1 f1 u1 h1 q1 => ?_
  refine ⟨Nat.zero_le _, fun p hp => ?_⟩
  refine ⟨_, _, rfl, ?_⟩
  have fr0 := f.trans (f1.lessW W.l)
  have np : nw p := (W.new p).2 (fr0.free (u1.lessW W.l) hp)
  have q3 := q1 p np fun j' c l e => by
    obtain ⟨v, _, hv⟩ := (sl.fr f1).2 j' _ e
    rw [Hd.cell] at hv
    obtain ⟨_, _, _, us, hk, _⟩ := hv
    exact ne_of_none hk hp
  have u3 := TC.W.cell_ui u1 hp
  have gr1 := TC.W.cell_gr (w := w) hp
  refine hr.run w0 H0 (w.cell p) nw _ _ _ m1 nx rt Dn ⟨⟨W.l.u, fun a ha => List.mem_cons_of_mem _ (W.l.ex a ha)⟩, W.new, W.av⟩ (fr0.trans (Fr.upd hp)) ?_ u3 q3 c r
  have s2 := (((sl.fr f1).grow gr1).fr (Fr.upd (o := .lst []) hp))
  have d1' := ((h1.grow gr1).fr (Fr.upd (o := .lst []) hp))
  exact (s2.set i d1').set j (TC.W.cell_hd u1 hp)
/-- x, y = ([], e) -/
def dmPar2A (i j : Nat) (te : DE) (u : DM) : DM := fun nw nx rt env m => te env m fun d m1 => noc d = true ∧ ∀ p, nw p → (∀ (j' : Nat) (c : Addr) (l : List D), env[j']? = some (some (.cell c l)) → c ≠ p) →
  u nw nx rt ((env.set i (some (.cell p []))).set j (some d)) m1
theorem dmT_par2a {i j : Nat} {x y : Str} {px py pt l2 : Pos} {kt k2 pt2} (hc : X.calm = true) (hN : X.N.Nodup) (ha : De X e te) (hr : DmT X rest um) (hi : X.N[i]? = some x := by rfl) (hj : X.N[j]? = some y := by rfl) (hij : i ≠ j := by decide)
    (hx : X.env.scope.names.lookup x = some .local := by rfl) (hy : X.env.scope.names.lookup y = some .local := by rfl)
    (hw : swappedStores [.Tuple [.Name x px, .Name y py] kt pt] (.Tuple [.List [] l2, e] k2 pt2) X.env = pure (some [x, y]) := by rfl)
    (hs : swapsWithSole [.Tuple [.Name x px, .Name y py] kt pt] (.Tuple [.List [] l2, e] k2 pt2) pos.line X.env = pure false := by rfl)
    (g2 : starEach [.List [] l2, e] X.env = (false, eval (.List [] l2) X.env) :: starEach [e] X.env := by rfl)
    (g3 : starEach [e] X.env = (false, eval e X.env) :: starEach [] X.env := by rfl) :
    DmT X (.Assign [.Tuple [.Name x px, .Name y py] kt pt] (.Tuple [.List [] l2, e] k2 pt2) pos :: rest) (dmPar2A i j te um) := by
  refine ⟨fun w0 H0 w nw σ H env m nx rt Dn W f sl hu q c r => wpSs_of (pss_cons (ps_par hc hN hi hj hij hx hy (pa_cons (pe_lst pa_nil) (pa_cons pe_self pa_nil g3) g2) hw hs) pss_self) ?_⟩
  refine ⟨Nat.zero_le _, fun p hp => ?_⟩
  have np : nw p := (W.new p).2 (f.free (hu.lessW W.l) hp)
  have gr1 := TC.W.cell_gr (w := w) hp
  have hq : ∀ (j' : Nat) (c : Addr) (l : List D), env[j']? = some (some (.cell c l)) → c ≠ p := fun j' c l e => by
    obtain ⟨v, _, hv⟩ := sl.2 j' _ e
    rw [Hd.cell] at hv
    obtain ⟨_, _, _, us, hk, _⟩ := hv
    exact ne_of_none hk hp
  have u1 := TC.W.cell_ui hu hp
  have s1 := ((sl.grow gr1).fr (Fr.upd (o := .lst []) hp))
  have c1 := TC.W.cell_hd hu hp
  refine ha.run (w.cell p) σ _ env m _ _ s1 u1 q fun v1 d m1 H1 f1 u2 h1 q1 => ?_
  refine ⟨_, _, rfl, ?_⟩
  refine hr.run w0 H0 (w.cell p) nw _ _ _ m1 nx rt Dn ⟨⟨W.l.u, fun a ha => List.mem_cons_of_mem _ (W.l.ex a ha)⟩, W.new, W.av⟩ ((f.trans (Fr.upd hp)).trans (f1.lessW (⟨W.l.u, fun a ha => List.mem_cons_of_mem p (W.l.ex a ha)⟩ : Less w0 (w.cell p)))) ?_ u2 (q1.2 p np hq) c r
  exact ((s1.fr f1).set i (c1.fr f1)).set j h1
end
end TC
namespace TC
open PySem PySem.Spec PyProof.Rows L2
section
variable {prog : Program} {w : World} {A : Around} {E : Value → Shared → Prop} {s : Shared}
theorem collect_tuple {l : Addr} {vs : List Value} {Q : List Value → Shared → Prop} (hl : s.heap.IsTuple l vs.toArray)
    (h : Q vs { s with heap := (s.heap.push (seqObj "list" #[] 0)).update s.heap.objs.size (Obj.mapSeq (· ++ vs.toArray)) }) (hsz : vs.length ≤ sizeLine) :
    wpAny (model prog w) A (collect (.ref l)) Q E s := by
  obtain ⟨o, ho, hc, n, hd⟩ := id hl
  unfold collect
  refine wpAny_bind (wpAny_runValue (codeAny_builtin entry_proto_collect' ?_))
  show wpAny _ _ (do again (.builtin "list.__iadd__" ⟨[← newList [], .ref l], []⟩)) _ _ s
  refine wpAny_bind (wpAny_newList (wpAny_pure ⟨Code.quiet_builtin _ (by decide +kernel), codeAny_builtin entry_list_iadd' ?_⟩))
  show wpAny _ _ (Builtin.List.listExtendWith (.ref s.heap.objs.size) (.ref l) (.ref s.heap.objs.size)) _ _ { s with heap := s.heap.push (seqObj "list" #[] 0) }
  unfold Builtin.List.listExtendWith
  have ho' : (s.heap.push (seqObj "list" #[] 0)).get? l = some o := Heap.get?_push_of_some _ ho
  refine wpAny_bind (wpAny_typeOf (T := "tuple") ⟨o, ho', hc⟩ ?_)
  have ht : (Value.type "tuple" == Value.type "tuple") = true := by rfl
  rw [if_pos (by rw [ht]; simp)]
  refine wpAny_bind (listItems_at ho' hd ?_)
  refine wpAny_bind (listItems_at (xs := #[]) (n := 0) (Heap.get?_push_size _ rfl) rfl ?_)
  rw [if_neg (by simp)]
  refine wpAny_bind (listUpdate_at (xs := #[]) (n := 0) (Heap.get?_push_size _ rfl) rfl ?_ (Nat.zero_le _) (by show (#[] ++ vs.toArray).size ≤ sizeLine + 1; simp only [Array.size_append, List.size_toArray, List.length_nil]; omega))
  refine wpAny_pure ?_
  show wpAny (model prog w) A (do
      let o ← load s.heap.objs.size
      match o.data with
      | .seq xs _ => pure xs.toList
      | _ => unsupported "internal:collect") Q E { s with heap := (s.heap.push (seqObj "list" #[] 0)).update s.heap.objs.size (Obj.mapSeq (· ++ vs.toArray)) }
  refine wpAny_bind (wpAny_load (get?_update_seq (Heap.get?_push_size _ rfl) _) ?_)
  show wpAny _ _ (pure ((#[] : Array Value) ++ vs.toArray).toList) Q E _
  rw [show ((#[] : Array Value) ++ vs.toArray).toList = vs by simp]
  exact wpAny_pure h
theorem sorted_tup {l : Addr} {vs : List Value} {ss : List Str} {Q : Value → Shared → Prop} (hl : s.heap.IsTuple l vs.toArray) (hS : StrsAre vs ss) (h64 : vs.length < 64)
    (h : ∀ (out : Array Value) (ss' : List Str), StrsAre out.toList ss' → ss'.Perm ss → sortedS ss' = true → Q (.ref (s.heap.objs.size + 1)) { s with heap := sortedAll s.heap vs out }) :
    wpAny (model prog w) A (call (.builtin "sorted") [.ref l]) Q E s := by
  refine Calls.call_function_entry kind_sorted plain_sorted entry_sorted (args_sorted1 _) ?_
  unfold Builtin.«sorted»
  refine wpAny_bind (m := checkCount "sorted" 1 1 _) (wpAny_pure ?_)
  refine wpAny_bind (collect_tuple hl ?_ (by rw [sizeLine_eq]; omega))
  refine wpAny_bind (wpAny_newList ?_ (by rw [sizeLine_eq]; omega))
  have hsz : ((s.heap.push (seqObj "list" #[] 0)).update s.heap.objs.size (Obj.mapSeq (· ++ vs.toArray))).objs.size = s.heap.objs.size + 1 := by
    rw [Heap.size_update, size_push']
  have hoL : (((s.heap.push (seqObj "list" #[] 0)).update s.heap.objs.size (Obj.mapSeq (· ++ vs.toArray))).push (seqObj "list" vs.toArray 0)).get? (s.heap.objs.size + 1) = some (seqObj "list" vs.toArray 0) := by
    rw [← hsz]; exact Heap.get?_push_size _ rfl
  show wpAny _ _ _ _ _ { s with heap := ((s.heap.push (seqObj "list" #[] 0)).update s.heap.objs.size (Obj.mapSeq (· ++ vs.toArray))).push (seqObj "list" vs.toArray 0) }
  rw [hsz]
  refine wpAny_bind (wpAny_holding (wpAny_call_entry slot_list_sort ⟨_, hoL, rfl⟩ entry_list_sort (list_sort_treeK strKind_oneLt hoL hS.keysOf (fun v₁ v₂ rest e => keyKind_strs (by rw [← e]; exact hS)) h64 fun st' a1 a2 => ⟨_, rfl, ?_⟩) (args_list_sort _)))
  obtain ⟨ss', h1, h2, h3⟩ := sorted_out_str hS a1 a2
  exact wpAny_pure ⟨_, rfl, h _ ss' h1 h2 h3⟩
end
variable [Cl]
def rSortedTup (K : PySem.W.Frag) : List V → Hp → L2.VK → Prop := fun vs H Q => ∃ (a : Addr) (xs : List Str), vs = [V.ref a] ∧ SqT K H a (xs.map V.str) ∧ xs.length < 64 ∧
  ∀ (ys : List Str) (p : Addr), ys.Perm xs → sortedS ys = true → H p = none → Q (.ref p) (upd H p (.lst (ys.map V.str)))
theorem cr_sortedTup {X : Cx} : CallR X (.builtin "sorted") (rSortedTup X.K) := by
  intro pins s σ H vs us Q I r h
  obtain ⟨a, xs, rfl, hs, h64, q⟩ := h
  obtain ⟨its, rv, hl, _⟩ := I.tuple hs
  rw [Vals.ref1 r]
  have hlen0 := rv.length
  rw [List.length_map] at hlen0
  refine sorted_tup hl rv.strs (by rw [← hlen0]; exact h64) fun out ys h1 h2 h3 => ?_
  obtain ⟨ep, he'⟩ := PyProof.Rows.sortedAll_at s.heap its out
  have hlen : (ys.map V.str).length ≤ sizeLine := by rw [List.length_map, h2.length_eq]; exact small64 h64
  exact ⟨.ref _, upd H (s.heap.objs.size + 1) (.lst (ys.map V.str)), I.laid (t' := s.toks) (fun _ _ => PyProof.Rows.sortedAll_old) (Nat.le_succ _) ⟨hlen, out.toList, ep, vals_of_strs h1, he'⟩, rfl, q ys _ h2 h3 (I.hok.fresh (Nat.le_succ _))⟩
section
variable {X : Cx}
/-- sorted of a tuple of texts -/
theorem dc_sortedT (hK : X.K = Cl.K := by rfl) : DCall X (.builtin "sorted") (fun ds m Q => ∃ xs : List Str, ds = [.tup (xs.map D.str)] ∧ xs.length < 64 ∧ ∀ ys : List Str, ys.Perm xs → sortedS ys = true → Q (.lst (ys.map D.str)) m) := by
  refine ⟨fun w H m vs ds Q' Q hu hs h c => ?_⟩
  obtain ⟨xs, rfl, hl, q⟩ := h
  obtain ⟨v, zs, rfl, h1, h2⟩ := hs.uncons
  cases h2.unnil
  rw [Hd.tup] at h1
  obtain ⟨a, us, rfl, ha, hds⟩ := h1
  have e := hds.flat (by rw [List.all_eq_true]; intro d hd; obtain ⟨b, _, rfl⟩ := List.mem_map.mp hd; rfl)
  have e2 : (xs.map D.str).map fv = xs.map V.str := by rw [List.map_map]; rfl
  rw [e2] at e
  subst e
  refine wpC_of cr_sortedTup ⟨a, xs, rfl, ha.sq hK, hl, fun ys p hp hst hn => ?_⟩
  exact c _ _ _ _ (Fr.upd hn) (hu.upd hn) (new_lst hu (hds_strs ys) hn) (q ys hp hst)
end
end TC
namespace TC
open PySem PySem.Spec PyProof.Rows L2
variable [Cl]
section
variable {X : Cx} {a e : Expr} {te : DE} {p p2 q pos r : Pos}
/-- a test by truth -/
def dTru (te : DE) : DT := fun env m Q => te env m fun d m1 => truD d fun k => Q k m1
theorem dt_tru (h : De X e te) (he : ∀ whole, isTrue e X.env whole = (do let v ← whole; standAt e.pos; holding [v] (truthy v)) := by intro _; rfl) (hK : X.K = Cl.K := by rfl) : Dt X e (dTru te) := by
  refine ⟨fun w σ H env m Q' Q sl hu hh c => wpT_of (pt_truth pe_self he) ?_⟩
  refine h.run w σ H env m _ _ sl hu hh fun v d m1 H1 f1 u1 h1 q1 => ?_
  obtain ⟨k, hk, q⟩ := tru_of hK h1 q1
  exact ⟨k, hk, c k m1 H1 f1 u1 q⟩
/-- len(set(a list of texts)) -/
def dLenSetL (te : DE) : DE := fun env m Q => te env m fun d m1 => ∃ xs ys : List Str, d = .lst (xs.map D.str) ∧ xs.length ≤ 4000 ∧ ys.Nodup ∧ (∀ z, z ∈ ys ↔ z ∈ xs) ∧ Q (.int (ys.length : Nat)) m1
theorem same_len {a b : List Str} (na : a.Nodup) (nb : b.Nodup) (h : ∀ z, z ∈ a ↔ z ∈ b) : a.length = b.length := ((List.perm_ext_iff_of_nodup na nb).mpr h).length_eq
theorem de_lensetL (hm : X.mg "len" = none) (hm2 : X.mg "set" = none) (ha : De X a te) (hc : X.calm = true := by rfl) (hg : Gl X "len" := by rfl) (hg2 : Gl X "set" := by rfl) (na : starEach [a] X.env = (false, eval a X.env) :: starEach [] X.env := by rfl) :
    De X (.Call (.Name "len" p) [.Call (.Name "set" p2) [a] [] q] [] pos) (dLenSetL te) := by
  refine ⟨fun w σ H env m Q' Q sl hu h k pins s I => ?_⟩
  refine Call_ (ld_blt I hg hm boot_len ?_)
  refine PyProof.Rows.callWith_builtin1 (PyProof.Rows.args_cons ?_ rfl) rfl rfl
  refine Call_ (ld_blt I hg2 hm2 boot_set ?_)
  have got := ha.run w σ H env m _ (fun v H1 => ∃ (l : Addr) (xs ys : List Str), v = .ref l ∧ SqL X.K H1 l (xs.map V.str) ∧ xs.length ≤ 4000 ∧ ys.Nodup ∧ (∀ z, z ∈ ys ↔ z ∈ xs) ∧ Q (.int (ys.length : Nat)) H1) sl hu h (fun v d m1 H1 f1 u1 h1 q1 => by
    obtain ⟨xs, ys, rfl, hl, ny, my, q1⟩ := q1
    rw [Hd.lst] at h1
    obtain ⟨l, vs, rfl, _, hp, hds⟩ := h1
    have := hds.flat (by rw [List.all_eq_true]; intro d hd; obtain ⟨b, _, rfl⟩ := List.mem_map.mp hd; rfl)
    have e2 : (xs.map D.str).map fv = xs.map V.str := by rw [List.map_map]; rfl
    rw [e2] at this
    subst this
    exact ⟨l, xs, ys, rfl, SqL.of hp, hl, ny, my, k _ _ _ _ f1 u1 (Hd.int.mpr rfl) q1⟩) pins s I
  refine PyProof.Rows.callWith_type1 (PyProof.Rows.args_cons (thn got fun v s1 ⟨x, H1, I1, r1, q1⟩ => PyProof.Rows.args_nil ?_) na) na rfl
  obtain ⟨l, xs, ys, rfl, hq, hl, ny, my, q1⟩ := q1
  cases r1
  obtain ⟨its, rv, pl, hz⟩ := I1.list hq
  have size : its.toArray.size = xs.length := by rw [List.size_toArray, ← rv.length, List.length_map]
  refine zset_of_list (I1.ok.hd hc) pl.isList (by simpa using strsAre_of rv) hl fun h' tk hS hk => ?_
  refine PyProof.Rows.args_nil ?_
  rw [size] at hS
  have I2 : Inv X pins σ H1 { s1 with heap := h', toks := tk } := I1.kept fun b o e => hk b o (Heap.lt_size e) e
  obtain ⟨ob, ps, ep, tb, ho, hx, hd, g, nd, hM, hb, hf, hn, hr, hl2⟩ := hS
  have small := cnt_le xs xs.length
  have e : cnt xs xs.length = ys.length := by
    rw [← hn]
    have : (ps.toList.map memZ).length = ys.length := same_len nd ny fun z => by
      rw [← hM z, my z, List.any_eq_true]
      exact ⟨fun ⟨y, hy, e⟩ => by rw [← beq_iff_eq.mp e]; exact hy, fun hz => ⟨z, hz, beq_self_eq_true z⟩⟩
    rw [List.length_map, Array.length_toList] at this
    exact this
  exact call_len_set ho hx hd hf (by rw [hn] <;> omega) ⟨.int (ys.length : Nat), H1, I2.tok _, ⟨_, by rw [hn, e]⟩, q1⟩
end
end TC
namespace TC
open PySem PySem.Spec PyProof.Rows L2
variable [Cl]
section
variable {X : Cx} {rest : List Stmt} {um : DM} {e e2 tg : Expr} {te te2 : DE} {dg : DG} {is : List Nat} {pos : Pos}
/-- targets of any kind = (e, e2, []): the list is filled later -/
def dmAsg3O (te te2 : DE) (dg : DG) (u : DM) : DM := fun nw nx rt env m => te env m fun d m1 => te2 env m1 fun d2 m2 => ∀ p, nw p → (∀ (j' : Nat) (c : Addr) (l : List D), env[j']? = some (some (.cell c l)) → c ≠ p) →
  dg (.tup [d, d2, .cell p []]) env fun env1 => u nw nx rt env1 m2
theorem dmT_asg3o {l2 pt2 : Pos} {k2} (ha : De X e te) (hb : De X e2 te2) (hg : Dg X tg is dg) (hr : DmT X rest um)
    (hs : swapsWithSole [tg] (.Tuple [e, e2, .List [] l2] k2 pt2) pos.line X.env = pure false := by rfl) (hw : swappedStores [tg] (.Tuple [e, e2, .List [] l2] k2 pt2) X.env = pure none := by rfl)
    (h1 : (assignEach [tg] X.env).map (·.2) = [assign tg X.env] := by rfl)
    (g1 : starEach [e, e2, .List [] l2] X.env = (false, eval e X.env) :: starEach [e2, .List [] l2] X.env := by rfl)
    (g2 : starEach [e2, .List [] l2] X.env = (false, eval e2 X.env) :: starEach [.List [] l2] X.env := by rfl)
    (g3 : starEach [.List [] l2] X.env = (false, eval (.List [] l2) X.env) :: starEach [] X.env := by rfl) :
    DmT X (.Assign [tg] (.Tuple [e, e2, .List [] l2] k2 pt2) pos :: rest) (dmAsg3O te te2 dg um) := by
  refine ⟨fun w0 H0 w nw σ H env m nx rt Dn W f sl hu q c r => wpSs_of (pss_cons (ps_asg (pe_tup (pa_cons pe_self (pa_cons pe_self (pa_cons (pe_lst pa_nil) pa_nil g3) g2) g1)) pg_self hs hw h1) pss_self) ?_⟩
  refine ha.run w σ H env m _ _ sl hu q fun v1 d m1 H1 f1 u1 h1 q1 => ?_
  refine hb.run w σ H1 env m1 _ _ (sl.fr f1) u1 q1 fun v2 d2 m2 H2 f2 u2 h2 q2 => ?_
  refine ⟨Nat.zero_le _, fun p hp => ?_⟩
  refine ⟨(by show 3 ≤ sizeLine; decide), fun p3 hp3 => ?_⟩
  have f12 := f1.trans f2
  have fr0 := f.trans (f12.lessW W.l)
  have np : nw p := (W.new p).2 (fr0.free (u2.lessW W.l) hp)
  have q3 := q2 p np fun j' c l e => by
    obtain ⟨v, _, hv⟩ := (sl.fr f12).2 j' _ e
    rw [Hd.cell] at hv
    obtain ⟨_, _, _, us, hk, _⟩ := hv
    exact ne_of_none hk hp
  have u3 := TC.W.cell_ui u2 hp
  have gr1 := TC.W.cell_gr (w := w) hp
  have s2 := (((sl.fr f12).grow gr1).fr (Fr.upd (o := .lst []) hp))
  have d1' := (((h1.fr f2).grow gr1).fr (Fr.upd (o := .lst []) hp))
  have d2' := ((h2.grow gr1).fr (Fr.upd (o := .lst []) hp))
  have c3 := TC.W.cell_hd u2 hp
  have hd := new_tup u3 (.cons d1' (.cons d2' (.cons c3 .nil))) hp3
  have u4 := u3.upd (o := .tup [v1, v2, .ref p]) hp3
  have s4 := s2.fr (Fr.upd (o := .tup [v1, v2, .ref p]) hp3)
  refine hg.run (w.cell p) σ _ env m2 _ _ _ _ s4 u4 hd q3 fun σ2 env2 s5 _ q5 => ?_
  exact hr.run w0 H0 (w.cell p) nw _ _ _ m2 nx rt Dn ⟨⟨W.l.u, fun a ha => List.mem_cons_of_mem _ (W.l.ex a ha)⟩, W.new, W.av⟩ ((fr0.trans (Fr.upd hp)).trans (Fr.upd hp3)) s5 u4 q5 c r
/-- targets of any kind = (e, []) -/
def dmAsg2B (te : DE) (dg : DG) (u : DM) : DM := fun nw nx rt env m => te env m fun d m1 => ∀ p, nw p → (∀ (j' : Nat) (c : Addr) (l : List D), env[j']? = some (some (.cell c l)) → c ≠ p) →
  dg (.tup [d, .cell p []]) env fun env1 => u nw nx rt env1 m1
theorem dmT_asg2b {l2 pt2 : Pos} {k2} (ha : De X e te) (hg : Dg X tg is dg) (hr : DmT X rest um)
    (hs : swapsWithSole [tg] (.Tuple [e, .List [] l2] k2 pt2) pos.line X.env = pure false := by rfl) (hw : swappedStores [tg] (.Tuple [e, .List [] l2] k2 pt2) X.env = pure none := by rfl)
    (h1 : (assignEach [tg] X.env).map (·.2) = [assign tg X.env] := by rfl)
    (g2 : starEach [e, .List [] l2] X.env = (false, eval e X.env) :: starEach [.List [] l2] X.env := by rfl)
    (g3 : starEach [.List [] l2] X.env = (false, eval (.List [] l2) X.env) :: starEach [] X.env := by rfl) :
    DmT X (.Assign [tg] (.Tuple [e, .List [] l2] k2 pt2) pos :: rest) (dmAsg2B te dg um) := by
  refine ⟨fun w0 H0 w nw σ H env m nx rt Dn W f sl hu q c r => wpSs_of (pss_cons (ps_asg (pe_tup (pa_cons pe_self (pa_cons (pe_lst pa_nil) pa_nil g3) g2)) pg_self hs hw h1) pss_self) ?_⟩
  refine ha.run w σ H env m _ _ sl hu q fun v1 d m1 H1 f1 u1 h1 q1 => ?_
  refine ⟨Nat.zero_le _, fun p hp => ?_⟩
  refine ⟨(by show 2 ≤ sizeLine; decide), fun p3 hp3 => ?_⟩
  have fr0 := f.trans (f1.lessW W.l)
  have np : nw p := (W.new p).2 (fr0.free (u1.lessW W.l) hp)
  have q3 := q1 p np fun j' c l e => by
    obtain ⟨v, _, hv⟩ := (sl.fr f1).2 j' _ e
    rw [Hd.cell] at hv
    obtain ⟨_, _, _, us, hk, _⟩ := hv
    exact ne_of_none hk hp
  have u3 := TC.W.cell_ui u1 hp
  have gr1 := TC.W.cell_gr (w := w) hp
  have s2 := (((sl.fr f1).grow gr1).fr (Fr.upd (o := .lst []) hp))
  have d1' := ((h1.grow gr1).fr (Fr.upd (o := .lst []) hp))
  have c3 := TC.W.cell_hd u1 hp
  have hd := new_tup u3 (.cons d1' (.cons c3 .nil)) hp3
  have u4 := u3.upd (o := .tup [v1, .ref p]) hp3
  have s4 := s2.fr (Fr.upd (o := .tup [v1, .ref p]) hp3)
  refine hg.run (w.cell p) σ _ env m1 _ _ _ _ s4 u4 hd q3 fun σ2 env2 s5 _ q5 => ?_
  exact hr.run w0 H0 (w.cell p) nw _ _ _ m1 nx rt Dn ⟨⟨W.l.u, fun a ha => List.mem_cons_of_mem _ (W.l.ex a ha)⟩, W.new, W.av⟩ ((fr0.trans (Fr.upd hp)).trans (Fr.upd hp3)) s5 u4 q5 c r
end
end TC
/-! TX: programs over data: what an expression, a statement, a def gives, as a term that computes; draws are open. -/
namespace TC
open PySem PySem.Spec PyProof.Rows L2
/-- data that holds no cell -/
inductive Pv where
  | non | bl (b : Bool) | int (i : Int) | str (s : Str) | lst (l : List Pv) | tup (l : List Pv) | obj (c : Nat) (l : List Pv) | urn | dct (l : List (Str × Str))
mutual
def Pv.D : Pv → D
  | .non => .non
  | .bl b => .bl b
  | .int i => .int i
  | .str s => .str s
  | .lst l => .lst (PDs l)
  | .tup l => .tup (PDs l)
  | .obj c l => .obj c (PDs l)
  | .urn => .urn
  | .dct l => .dct l
def PDs : List Pv → List D
  | [] => []
  | p :: l => p.D :: PDs l
end
theorem PDs_map : ∀ l : List Pv, PDs l = l.map Pv.D
  | [] => by rw [PDs]; rfl
  | p :: l => by rw [PDs, PDs_map l]; rfl
theorem PDs_len (l : List Pv) : (PDs l).length = l.length := by rw [PDs_map, List.length_map]
theorem PDs_app (l r : List Pv) : PDs (l ++ r) = PDs l ++ PDs r := by rw [PDs_map, PDs_map, PDs_map, List.map_append]
mutual
theorem Pv.noc : ∀ p : Pv, noc p.D = true
  | .lst l => by rw [Pv.D, TC.noc]; exact PDs_noc l
  | .tup l => by rw [Pv.D, TC.noc]; exact PDs_noc l
  | .obj c l => by rw [Pv.D, TC.noc]; exact PDs_noc l
  | .non => rfl
  | .bl _ => rfl
  | .int _ => rfl
  | .str _ => rfl
  | .urn => rfl
  | .dct _ => rfl
theorem PDs_noc : ∀ l : List Pv, nocL (PDs l) = true
  | [] => rfl
  | p :: l => by rw [PDs, nocL, Pv.noc p, PDs_noc l]; rfl
end

/-! ### draws -/
inductive Tr (α : Type) where
  | ret (a : α) | fail | draw (n : Nat) (k : Nat → Tr α)
namespace Tr
variable {α β γ : Type}
def bind (t : Tr α) (f : α → Tr β) : Tr β := match t with
  | ret a => f a
  | fail => fail
  | draw n k => draw n fun v => bind (k v) f
def wp : Tr α → Nat → (α → Nat → Prop) → Prop
  | ret a, m, Q => Q a m
  | fail, _, _ => False
  | draw n k, m, Q => 0 < m ∧ ∀ v, v < n → wp (k v) (m - 1) Q
def ok (b : Bool) (t : Tr α) : Tr α := match b with
  | true => t
  | false => fail
@[simp] theorem bind_ret {a : α} {f : α → Tr β} : (ret a).bind f = f a := rfl
@[simp] theorem bind_fail {f : α → Tr β} : (fail : Tr α).bind f = fail := rfl
@[simp] theorem bind_draw {n : Nat} {k : Nat → Tr α} {f : α → Tr β} : (draw n k).bind f = draw n fun v => (k v).bind f := rfl
@[simp] theorem ok_true {t : Tr α} : ok true t = t := rfl
@[simp] theorem ok_false {t : Tr α} : ok false t = fail := rfl
theorem wp_bind : ∀ {t : Tr α} {f : α → Tr β} {m : Nat} {Q : β → Nat → Prop}, (t.bind f).wp m Q ↔ t.wp m fun a m1 => (f a).wp m1 Q
  | ret a, f, m, Q => Iff.rfl
  | fail, f, m, Q => Iff.rfl
  | draw n k, f, m, Q => by
    show (0 < m ∧ ∀ v, v < n → ((k v).bind f).wp (m - 1) Q) ↔ (0 < m ∧ ∀ v, v < n → (k v).wp (m - 1) fun a m1 => (f a).wp m1 Q)
    exact and_congr Iff.rfl (forall_congr' fun v => imp_congr Iff.rfl wp_bind)
theorem wp.mono : ∀ {t : Tr α} {m : Nat} {Q R : α → Nat → Prop}, t.wp m Q → (∀ a m1, Q a m1 → R a m1) → t.wp m R
  | ret a, m, Q, R, h, g => g a m h
  | fail, m, Q, R, h, g => h
  | draw n k, m, Q, R, h, g => ⟨h.1, fun v hv => wp.mono (h.2 v hv) g⟩
theorem wp_ok {b : Bool} {t : Tr α} {m : Nat} {Q : α → Nat → Prop} (h : (ok b t).wp m Q) : b = true ∧ t.wp m Q := by
  cases b with
  | true => exact ⟨rfl, h⟩
  | false => exact h.elim
end Tr
variable [Cl]

/-! ### readings of programs -/
abbrev PEnv := List (Option Pv)
/-- the slots hold at least this -/
def Sub (pe : PEnv) (env : Env) : Prop := pe.length = env.length ∧ ∀ (i : Nat) (p : Pv), pe[i]? = some (some p) → env[i]? = some (some p.D)
theorem Sub.set {pe : PEnv} {env : Env} (h : Sub pe env) (i : Nat) (p : Pv) : Sub (pe.set i (some p)) (env.set i (some p.D)) := by
  refine ⟨by simp [h.1], fun j q e => ?_⟩
  by_cases hij : i = j
  · subst hij
    have hl : i < pe.length := by
      by_cases hl : i < pe.length
      · exact hl
      · rw [List.getElem?_eq_none (by simpa using hl)] at e; cases e
    rw [List.getElem?_set_self hl] at e
    cases e
    exact List.getElem?_set_self (by rw [← h.1]; exact hl)
  · rw [List.getElem?_set_ne hij] at e ⊢
    exact h.2 j q e
def wipeP (pe : PEnv) : List Nat → PEnv
  | [] => pe
  | v :: vs => (wipeP pe vs).set v none
theorem Sub.none {pe : PEnv} {env : Env} (h : Sub pe env) (i : Nat) : Sub (pe.set i none) (env.set i none) := by
  refine ⟨by simp [h.1], fun j q e => ?_⟩
  by_cases hij : i = j
  · subst hij
    by_cases hl : i < pe.length
    · rw [List.getElem?_set_self hl] at e; cases e
    · rw [List.getElem?_eq_none (by simpa using hl)] at e; cases e
  · rw [List.getElem?_set_ne hij] at e ⊢
    exact h.2 j q e
theorem Sub.wipe {pe : PEnv} {env : Env} (h : Sub pe env) : ∀ vs : List Nat, Sub (wipeP pe vs) (wipeE env vs)
  | [] => h
  | v :: vs => (h.wipe vs).none v
abbrev XE := PEnv → Tr Pv
abbrev XA := PEnv → Tr (List Pv)
abbrev XT := PEnv → Tr Bool
abbrev XO := PEnv → Tr (Option Int)
def rd (x : XE) : DE := fun env m Q => ∃ pe, Sub pe env ∧ (x pe).wp m fun p m1 => Q p.D m1
def rdA (x : XA) : DA := fun env m Q => ∃ pe, Sub pe env ∧ (x pe).wp m fun ps m1 => Q (PDs ps) m1
def rdT (x : XT) : DT := fun env m Q => ∃ pe, Sub pe env ∧ (x pe).wp m fun b m1 => Q b m1
def rdO (x : XO) : DO := fun env m Q => ∃ pe, Sub pe env ∧ (x pe).wp m fun o m1 => Q o m1
def rdI (x : XA) : DI := fun env m Q => ∃ pe, Sub pe env ∧ (x pe).wp m fun ps m1 => Q (PDs ps) m1
section
variable {X : Cx} {e : Expr} {es : List Expr} {kws : List Keyword} {o : Option Expr} {tg : Expr}
theorem De.weak {t t' : DE} (h : De X e t) (hw : ∀ env m Q, t' env m Q → t env m Q) : De X e t' := ⟨fun w σ H env m Q' Q sl hu q c => h.run w σ H env m Q' Q sl hu (hw _ _ _ q) c⟩
theorem Da.weak {t t' : DA} (h : Da X es t) (hw : ∀ env m Q, t' env m Q → t env m Q) : Da X es t' := ⟨fun w σ H env m Q' Q sl hu q c => h.run w σ H env m Q' Q sl hu (hw _ _ _ q) c⟩
theorem Dk.weak {t t' : DA} (h : Dk X kws t) (hw : ∀ env m Q, t' env m Q → t env m Q) : Dk X kws t' := ⟨fun w σ H env m Q' Q sl hu q c => h.run w σ H env m Q' Q sl hu (hw _ _ _ q) c⟩
theorem Dt.weak {t t' : DT} (h : Dt X e t) (hw : ∀ env m Q, t' env m Q → t env m Q) : Dt X e t' := ⟨fun w σ H env m Q' Q sl hu q c => h.run w σ H env m Q' Q sl hu (hw _ _ _ q) c⟩
theorem Dw.weak {t t' : DT} (h : Dw X e t) (hw : ∀ env m Q, t' env m Q → t env m Q) : Dw X e t' := ⟨fun w σ H env m Q' Q sl hu q c => h.run w σ H env m Q' Q sl hu (hw _ _ _ q) c⟩
theorem Dp.weak {t t' : DO} (h : Dp X o t) (hw : ∀ env m Q, t' env m Q → t env m Q) : Dp X o t' := ⟨fun w σ H env m Q' Q sl hu q c => h.run w σ H env m Q' Q sl hu (hw _ _ _ q) c⟩
theorem Di.weak {t t' : DI} (h : Di X tg e t) (hw : ∀ env m Q, t' env m Q → t env m Q) : Di X tg e t' := ⟨fun w σ H env m Q' Q sl hu q c => h.run w σ H env m Q' Q sl hu (hw _ _ _ q) c⟩

/-! names, constants, displays -/
def xVar (i : Nat) : XE := fun pe => match pe[i]? with
  | some (some p) => .ret p
  | _ => .fail
theorem xv {i : Nat} (h : De X e (dVar i)) : De X e (rd (xVar i)) := h.weak fun env m Q ⟨pe, hs, q⟩ => by
  unfold xVar at q
  split at q
  · next p hp => exact ⟨_, hs.2 i p hp, q⟩
  · exact q.elim
def xC (p : Pv) : XE := fun _ => .ret p
theorem xc (p : Pv) (h : De X e (dC p.D)) : De X e (rd (xC p)) := h.weak fun env m Q ⟨pe, hs, q⟩ => q
def xNil : XA := fun _ => .ret []
def xCons (a : XE) (r : XA) : XA := fun pe => (a pe).bind fun p => (r pe).bind fun ps => .ret (p :: ps)
def xStar (a : XE) (r : XA) : XA := fun pe => (a pe).bind fun p => match p with
  | .lst l => (r pe).bind fun ps => .ret (l ++ ps)
  | .tup l => (r pe).bind fun ps => .ret (l ++ ps)
  | _ => .fail
theorem xnil (h : Da X es dNil) : Da X es (rdA xNil) := h.weak fun env m Q ⟨pe, hs, q⟩ => q
theorem xcons {a : XE} {r : XA} (h : Da X es (dCons (rd a) (rdA r))) : Da X es (rdA (xCons a r)) := h.weak fun env m Q ⟨pe, hs, q⟩ => by
  refine ⟨pe, hs, (Tr.wp_bind.mp q).mono fun p m1 q => ⟨pe, hs, (Tr.wp_bind.mp q).mono fun ps m2 q => ?_⟩⟩
  exact q
theorem xstar {a : XE} {r : XA} (h : Da X es (dStar (rd a) (rdA r))) : Da X es (rdA (xStar a r)) := h.weak fun env m Q ⟨pe, hs, q⟩ => by
  refine ⟨pe, hs, (Tr.wp_bind.mp q).mono fun p m1 q => ?_⟩
  cases p with
  | lst l =>
    refine ⟨PDs l, .inr (by rw [Pv.D]), pe, hs, (Tr.wp_bind.mp q).mono fun ps m2 q => ?_⟩
    have q2 : Q (PDs (l ++ ps)) m2 := q
    rw [PDs_app] at q2; exact q2
  | tup l =>
    refine ⟨PDs l, .inl (by rw [Pv.D]), pe, hs, (Tr.wp_bind.mp q).mono fun ps m2 q => ?_⟩
    have q2 : Q (PDs (l ++ ps)) m2 := q
    rw [PDs_app] at q2; exact q2
  | _ => exact q.elim
theorem xknil (h : Dk X kws dNil) : Dk X kws (rdA xNil) := h.weak fun env m Q ⟨pe, hs, q⟩ => q
theorem xkcons {a : XE} {r : XA} (h : Dk X kws (dCons (rd a) (rdA r))) : Dk X kws (rdA (xCons a r)) := h.weak fun env m Q ⟨pe, hs, q⟩ => by
  refine ⟨pe, hs, (Tr.wp_bind.mp q).mono fun p m1 q => ⟨pe, hs, (Tr.wp_bind.mp q).mono fun ps m2 q => ?_⟩⟩
  exact q
/-- a size that there is room for -/
def sz (n : Nat) : Bool := decide (n ≤ sizeLine)
def xTup (a : XA) : XE := fun pe => (a pe).bind fun ps => .ok (sz ps.length) (.ret (.tup ps))
def xLst (a : XA) : XE := fun pe => (a pe).bind fun ps => .ok (sz ps.length) (.ret (.lst ps))
theorem xtup {a : XA} (h : De X e (dTup (rdA a))) : De X e (rd (xTup a)) := h.weak fun env m Q ⟨pe, hs, q⟩ => by
  refine ⟨pe, hs, (Tr.wp_bind.mp q).mono fun ps m1 q => ?_⟩
  obtain ⟨h1, q⟩ := Tr.wp_ok q
  exact ⟨by rw [PDs_len]; exact of_decide_eq_true h1, by have q2 : Q (Pv.tup ps).D m1 := q; rw [Pv.D] at q2; exact q2⟩
theorem xlst {a : XA} (h : De X e (dLst (rdA a))) : De X e (rd (xLst a)) := h.weak fun env m Q ⟨pe, hs, q⟩ => by
  refine ⟨pe, hs, (Tr.wp_bind.mp q).mono fun ps m1 q => ?_⟩
  obtain ⟨h1, q⟩ := Tr.wp_ok q
  exact ⟨by rw [PDs_len]; exact of_decide_eq_true h1, by have q2 : Q (Pv.lst ps).D m1 := q; rw [Pv.D] at q2; exact q2⟩

/-! operators -/
abbrev X2 := Pv → Pv → Tr Pv
def OpX (t : D2) (g : X2) : Prop := ∀ p q m Q, (g p q).wp m (fun r m1 => Q r.D m1) → t p.D q.D m Q
def xBin (g : X2) (a b : XE) : XE := fun pe => (a pe).bind fun p => (b pe).bind fun q => g p q
theorem bin_of {t : D2} {g : X2} {a b : XE} (ho : OpX t g) {env m} {Q : D → Nat → Prop} (h : rd (xBin g a b) env m Q) : dBin t (rd a) (rd b) env m Q := by
  obtain ⟨pe, hs, q⟩ := h
  exact ⟨pe, hs, (Tr.wp_bind.mp q).mono fun p m1 q => ⟨pe, hs, (Tr.wp_bind.mp q).mono fun r m2 q => ho _ _ _ _ q⟩⟩
theorem xbin {t : D2} {g : X2} {a b : XE} (ho : OpX t g) (h : De X e (dBin t (rd a) (rd b))) : De X e (rd (xBin g a b)) := h.weak fun env m Q q => bin_of ho q
def gAdd : X2 := fun p q => match p, q with
  | .int i, .int j => .ret (.int (i + j))
  | .str a, .str b => .ok (sz (a.length + b.length)) (.ret (.str (a ++ b)))
  | .lst a, .lst b => .ok (sz (a.length + b.length)) (.ret (.lst (a ++ b)))
  | .tup a, .tup b => .ok (sz (a.length + b.length)) (.ret (.tup (a ++ b)))
  | _, _ => .fail
theorem ox_add : OpX dadd gAdd := fun p q m Q h => by
  cases p <;> cases q <;> first
    | exact h.elim
    | exact h
    | (obtain ⟨h1, h2⟩ := Tr.wp_ok h; exact ⟨of_decide_eq_true h1, h2⟩)
    | (obtain ⟨h1, h2⟩ := Tr.wp_ok h
       have h3 := of_decide_eq_true h1
       rw [← PDs_len, ← PDs_len] at h3
       unfold Tr.wp at h2
       rw [Pv.D, PDs_app] at h2
       rw [Pv.D, Pv.D]
       exact ⟨h3, h2⟩)
def gI (C : Int → Int → Bool) (g : Int → Int → Pv) : X2 := fun p q => match p, q with
  | .int i, .int j => .ok (C i j) (.ret (g i j))
  | _, _ => .fail
theorem ox_I {C : Int → Int → Prop} {g : Int → Int → D} {C' : Int → Int → Bool} {g' : Int → Int → Pv} (hC : ∀ i j, C' i j = true → C i j) (hg : ∀ i j, (g' i j).D = g i j) : OpX (dI C g) (gI C' g') := fun p q m Q h => by
  cases p <;> cases q <;> first
    | exact h.elim
    | (obtain ⟨h1, h2⟩ := Tr.wp_ok h
       unfold Tr.wp at h2
       rw [hg] at h2
       rw [Pv.D, Pv.D]
       exact ⟨_, _, rfl, rfl, hC _ _ h1, h2⟩)
def gSub := gI (fun _ _ => true) fun i j => .int (i - j)
def gMod := gI (fun _ j => decide (0 < j)) fun i j => .int (i % j)
def gFdiv := gI (fun _ j => decide (0 < j ∧ j < 2 ^ 30)) fun i j => .int (i / j)
def gLt := gI (fun _ _ => true) fun i j => .bl (decide (i < j))
def gLe := gI (fun _ _ => true) fun i j => .bl (decide (i ≤ j))
def gGt := gI (fun _ _ => true) fun i j => .bl (decide (i > j))
def gGe := gI (fun _ _ => true) fun i j => .bl (decide (i ≥ j))
theorem ox_sub : OpX (dI (fun _ _ => True) fun i j => .int (i - j)) gSub := ox_I (fun _ _ _ => trivial) fun _ _ => by rw [Pv.D]
theorem ox_mod : OpX (dI (fun _ j => 0 < j) fun i j => .int (i % j)) gMod := ox_I (fun _ _ h => of_decide_eq_true h) fun _ _ => by rw [Pv.D]
theorem ox_fdiv : OpX (dI (fun _ j => 0 < j ∧ j < 2 ^ 30) fun i j => .int (i / j)) gFdiv := ox_I (fun _ _ h => of_decide_eq_true h) fun _ _ => by rw [Pv.D]
theorem ox_lt : OpX (dI (fun _ _ => True) fun i j => .bl (decide (i < j))) gLt := ox_I (fun _ _ _ => trivial) fun _ _ => by rw [Pv.D]
theorem ox_le : OpX (dI (fun _ _ => True) fun i j => .bl (decide (i ≤ j))) gLe := ox_I (fun _ _ _ => trivial) fun _ _ => by rw [Pv.D]
theorem ox_gt : OpX (dI (fun _ _ => True) fun i j => .bl (decide (i > j))) gGt := ox_I (fun _ _ _ => trivial) fun _ _ => by rw [Pv.D]
theorem ox_ge : OpX (dI (fun _ _ => True) fun i j => .bl (decide (i ≥ j))) gGe := ox_I (fun _ _ _ => trivial) fun _ _ => by rw [Pv.D]
end
end TC
namespace TC
open PySem PySem.Spec PyProof.Rows L2
variable [Cl]
theorem PvD_int {p : Pv} {i : Int} (h : p.D = .int i) : p = .int i := by cases p <;> simp [Pv.D] at h ⊢; exact h
section
variable {X : Cx} {e a b : Expr} {es : List Expr} {kws : List Keyword} {o : Option Expr} {tg : Expr}
/-! more operators -/
def gOr (g1 : Pv → Pv → Bool) (a b : X2) : X2 := fun p q => if g1 p q = true then a p q else b p q
theorem do_alt {f : Value → Value → Sem Value} {t u : D2} (h : DOp X f t) (g : DOp X f u) : DOp X f (fun x y m Q => t x y m Q ∨ u x y m Q) :=
  ⟨fun w H m x y dx dy Q' Q hu hx hy q c => q.elim (fun q => h.run w H m x y dx dy Q' Q hu hx hy q c) fun q => g.run w H m x y dx dy Q' Q hu hx hy q c⟩
theorem ox_alt {t u : D2} {c : Pv → Pv → Bool} {g1 g2 : X2} (h : OpX t g1) (g : OpX u g2) : OpX (fun x y m Q => t x y m Q ∨ u x y m Q) (gOr c g1 g2) := fun p q m Q z => by
  unfold gOr at z
  split at z
  · exact .inl (h _ _ _ _ z)
  · exact .inr (g _ _ _ _ z)
/-- == of simple values -/
def flat2 (p q : Pv) : Bool := flatD p.D && flatD q.D && scal (fv p.D) (fv q.D)
def eqF (p q : Pv) : Bool := decide (fv p.D = fv q.D)
def gEqF (neg : Bool) : X2 := fun p q => .ok (flat2 p q) (.ret (.bl (if neg then !eqF p q else eqF p q)))
theorem ox_eqF {neg : Bool} : OpX (deq neg) (gEqF neg) := fun p q m Q h => by
  obtain ⟨h1, h2⟩ := Tr.wp_ok h
  unfold flat2 at h1
  rw [Bool.and_eq_true, Bool.and_eq_true] at h1
  exact ⟨h1.1.1, h1.1.2, h1.2, h2⟩
/-- == of nested data -/
def gEqD (neg : Bool) : X2 := fun p q => .ok (tidy 60 p.D && tidy 60 q.D) (.ret (.bl (if neg then !eqD p.D q.D else eqD p.D q.D)))
theorem ox_eqD {neg : Bool} : OpX (dEqA neg) (gEqD neg) := fun p q m Q h => by
  obtain ⟨h1, h2⟩ := Tr.wp_ok h
  rw [Bool.and_eq_true] at h1
  exact ⟨h1.1, h1.2, h2⟩
def gEq (neg : Bool) : X2 := gOr flat2 (gEqF neg) (gEqD neg)
theorem ox_eq {neg : Bool} : OpX (fun x y m Q => deq neg x y m Q ∨ dEqA neg x y m Q) (gEq neg) := ox_alt ox_eqF ox_eqD
/-- x in y -/
def gIn (neg : Bool) : X2 := fun p q => match q with
  | .lst l => .ok (flatD p.D && (PDs l).all flatD) (.ret (.bl (if neg then !inV (fv p.D) ((PDs l).map fv) else inV (fv p.D) ((PDs l).map fv))))
  | .tup l => .ok (flatD p.D && (PDs l).all flatD) (.ret (.bl (if neg then !inV (fv p.D) ((PDs l).map fv) else inV (fv p.D) ((PDs l).map fv))))
  | _ => .fail
theorem ox_in {neg : Bool} : OpX (din neg) (gIn neg) := fun p q m Q h => by
  cases q with
  | lst l =>
    obtain ⟨h1, h2⟩ := Tr.wp_ok h
    rw [Bool.and_eq_true] at h1
    exact ⟨PDs l, .inl (by rw [Pv.D]), h1.1, h1.2, h2⟩
  | tup l =>
    obtain ⟨h1, h2⟩ := Tr.wp_ok h
    rw [Bool.and_eq_true] at h1
    exact ⟨PDs l, .inr (by rw [Pv.D]), h1.1, h1.2, h2⟩
  | _ => exact h.elim
def gNotInD : X2 := fun p q => match q with
  | .tup l => .ok (tidy 60 p.D && tidy 60 (Pv.tup l).D) (.ret (.bl (!(PDs l).any fun z => eqD z p.D)))
  | _ => .fail
theorem ox_notinD : OpX (fun x y m Q => ∃ l, y = .tup l ∧ tidy 60 x = true ∧ tidy 60 (.tup l) = true ∧ Q (.bl (!l.any fun z => eqD z x)) m) gNotInD := fun p q m Q h => by
  cases q with
  | tup l =>
    obtain ⟨h1, h2⟩ := Tr.wp_ok h
    rw [Bool.and_eq_true] at h1
    have h3 := h1.2
    rw [Pv.D] at h3
    exact ⟨PDs l, by rw [Pv.D], h1.1, h3, h2⟩
  | _ => exact h.elim
def cmul (i j : Int) : Bool := decide ((-(2 ^ 64) < i ∧ i < 2 ^ 64) ∨ (-(2 ^ 64) < j ∧ j < 2 ^ 64))
def cpow (i j : Int) : Bool := decide (0 ≤ j ∧ j ≤ 1000000 ∧ i.natAbs < 2 ^ 64)
def gMul : X2 := fun p q => match p, q with
  | .tup l, .int k => .ok (decide (0 ≤ k ∧ k ≤ 1000 ∧ l.length ≤ 1000)) (.ret (.tup (List.replicate k.toNat l).flatten))
  | .int i, .int j => .ok (cmul i j) (.ret (.int (i * j)))
  | .lst l, .int k => .ok (decide (0 ≤ k ∧ k < 2 ^ 63) && sz (l.length * k.toNat)) (.ret (.lst (List.replicate k.toNat l).flatten))
  | .str z, .int k => .ok (decide (2 ≤ k ∧ k ≤ 1000 ∧ 0 < z.length ∧ z.length ≤ 1000)) (.ret (.str (repS z k.toNat)))
  | _, _ => .fail
theorem PDs_rep (l : List Pv) : ∀ n, PDs (List.replicate n l).flatten = (List.replicate n (PDs l)).flatten
  | 0 => by simp [PDs]
  | n + 1 => by rw [List.replicate_succ, List.flatten_cons, PDs_app, PDs_rep l n, List.replicate_succ, List.flatten_cons]
theorem ox_mul : OpX dmulT gMul := fun p q m Q h => by
  cases p <;> cases q <;> first
    | exact h.elim
    | (obtain ⟨h1, h2⟩ := Tr.wp_ok h
       have h3 := of_decide_eq_true h1
       exact ⟨h3, h2⟩)
    | (obtain ⟨h1, h2⟩ := Tr.wp_ok h
       have h3 := of_decide_eq_true h1
       exact ⟨h3.1, h3.2.1, h3.2.2.1, h3.2.2.2, h2⟩)
    | (obtain ⟨h1, h2⟩ := Tr.wp_ok h
       have h3 := of_decide_eq_true h1
       rw [← PDs_len] at h3
       unfold Tr.wp at h2
       rw [Pv.D, PDs_rep] at h2
       rw [Pv.D, Pv.D]
       exact ⟨h3.1, h3.2.1, h3.2.2, h2⟩)
    | (obtain ⟨h1, h2⟩ := Tr.wp_ok h
       rw [Bool.and_eq_true] at h1
       have h3 := of_decide_eq_true h1.1
       have h4 := of_decide_eq_true h1.2
       rw [← PDs_len] at h4
       unfold Tr.wp at h2
       rw [Pv.D, PDs_rep] at h2
       rw [Pv.D, Pv.D]
       exact ⟨h3.1, h3.2, h4, h2⟩)
def gPow := gI cpow fun i j => .int (i ^ j.toNat)
theorem ox_pow : OpX (dI CPow fun i j => .int (i ^ j.toNat)) gPow := ox_I (fun i j h => (show 0 ≤ j ∧ j ≤ 1000000 ∧ i.natAbs < 2 ^ 64 from of_decide_eq_true h)) fun _ _ => by rw [Pv.D]
def gLeS : X2 := fun p q => match p, q with
  | .int i, .int j => .ret (.bl (decide (i ≤ j)))
  | .str i, .str j => .ret (.bl (!decide (j.cps.toList < i.cps.toList)))
  | _, _ => .fail
theorem ox_leS : OpX dleS gLeS := fun p q m Q h => by
  cases p <;> cases q <;> first | exact h.elim | exact h
/-! subscripts -/
theorem atI_PDs {l : List Pv} {i : Int} {p : Pv} (h : atI l i = some p) : atI (PDs l) i = some p.D := by
  unfold atI at h ⊢
  rw [PDs_len]
  cases e : ixN l.length i with
  | none => rw [e] at h; cases h
  | some j =>
    rw [e] at h
    have h2 : l[j]? = some p := h
    show (PDs l)[j]? = some p.D
    rw [PDs_map, List.getElem?_map, h2]; rfl
def gIx : X2 := fun p q => match q with
  | .int i => match p with
    | .lst l => match atI l i with
      | some x => .ret x
      | none => .fail
    | .tup l => match atI l i with
      | some x => .ret x
      | none => .fail
    | .str z => .ok (sz z.length) (match atI z.cps.toList i with
      | some c => .ret (.str ⟨#[c]⟩)
      | none => .fail)
    | _ => .fail
  | _ => .fail
theorem ox_ix : OpX dix gIx := fun p q m Q h => by
  cases q with
  | int i =>
    refine ⟨i, by rw [Pv.D], ?_⟩
    cases p with
    | lst l =>
      unfold gIx at h
      dsimp only at h
      split at h
      · next x hx => exact .inl ⟨PDs l, x.D, .inl (by rw [Pv.D]), atI_PDs hx, h⟩
      · exact h.elim
    | tup l =>
      unfold gIx at h
      dsimp only at h
      split at h
      · next x hx => exact .inl ⟨PDs l, x.D, .inr (by rw [Pv.D]), atI_PDs hx, h⟩
      · exact h.elim
    | str z =>
      obtain ⟨h1, h2⟩ := Tr.wp_ok h
      split at h2
      · next c hc => exact .inr ⟨z, c, by rw [Pv.D], of_decide_eq_true h1, hc, h2⟩
      · exact h2.elim
    | _ => exact h.elim
  | _ => exact h.elim
theorem xix {x y : XE} (h : De X e (dBin dix (rd x) (rd y))) : De X e (rd (xBin gIx x y)) := xbin ox_ix h
def xNo : XO := fun _ => .ret none
def xSo (x : XE) : XO := fun pe => (x pe).bind fun p => match p with
  | .int i => .ret (some i)
  | _ => .fail
theorem xno (h : Dp X o dNo) : Dp X o (rdO xNo) := h.weak fun env m Q ⟨pe, hs, q⟩ => q
theorem xso {x : XE} (h : Dp X o (dSo (rd x))) : Dp X o (rdO (xSo x)) := h.weak fun env m Q ⟨pe, hs, q⟩ => by
  refine ⟨pe, hs, (Tr.wp_bind.mp q).mono fun p m1 q => ?_⟩
  cases p with
  | int i => exact ⟨i, by rw [Pv.D], q⟩
  | _ => exact q.elim
def gSl (p : Pv) (lo hi : Option Int) : Tr Pv := match p with
  | .lst l => .ret (.lst (cutD l lo hi))
  | .tup l => .ret (.tup (cutD l lo hi))
  | .str z => .ok (sz z.length) (.ret (.str (cutS z lo hi)))
  | _ => .fail
theorem PDs_cut (l : List Pv) (lo hi : Option Int) : PDs (cutD l lo hi) = cutD (PDs l) lo hi := by
  unfold cutD
  rw [PDs_len, PDs_map, PDs_map, List.map_take, List.map_drop]
def xSl (x : XE) (lo hi : XO) : XE := fun pe => (x pe).bind fun p => (lo pe).bind fun l => (hi pe).bind fun u => gSl p l u
theorem xsl {x : XE} {lo hi : XO} (h : De X e (dSlice (rd x) (rdO lo) (rdO hi))) : De X e (rd (xSl x lo hi)) := h.weak fun env m Q ⟨pe, hs, q⟩ => by
  refine ⟨pe, hs, (Tr.wp_bind.mp q).mono fun p m1 q => ⟨pe, hs, (Tr.wp_bind.mp q).mono fun l m2 q => ⟨pe, hs, (Tr.wp_bind.mp q).mono fun u m3 q => ?_⟩⟩⟩
  cases p with
  | lst r =>
    have q2 : Q (Pv.lst (cutD r l u)).D m3 := q
    rw [Pv.D, PDs_cut] at q2
    rw [Pv.D]; exact q2
  | tup r =>
    have q2 : Q (Pv.tup (cutD r l u)).D m3 := q
    rw [Pv.D, PDs_cut] at q2
    rw [Pv.D]; exact q2
  | str z =>
    obtain ⟨h1, h2⟩ := Tr.wp_ok q
    rw [Pv.D]; exact ⟨of_decide_eq_true h1, h2⟩
  | _ => exact q.elim
def gRev (p : Pv) : Tr Pv := match p with
  | .lst l => .ret (.lst l.reverse)
  | .tup l => .ret (.tup l.reverse)
  | _ => .fail
def xMap (g : Pv → Tr Pv) (x : XE) : XE := fun pe => (x pe).bind g
theorem xrev {x : XE} (h : De X e (dRev (rd x))) : De X e (rd (xMap gRev x)) := h.weak fun env m Q ⟨pe, hs, q⟩ => by
  refine ⟨pe, hs, (Tr.wp_bind.mp q).mono fun p m1 q => ?_⟩
  cases p with
  | lst r =>
    have q2 : Q (Pv.lst r.reverse).D m1 := q
    rw [Pv.D, PDs_map, List.map_reverse, ← PDs_map] at q2
    rw [Pv.D]; exact q2
  | tup r =>
    have q2 : Q (Pv.tup r.reverse).D m1 := q
    rw [Pv.D, PDs_map, List.map_reverse, ← PDs_map] at q2
    rw [Pv.D]; exact q2
  | _ => exact q.elim
/-! truth -/
def asB (p : Pv) : Tr Bool := match p with
  | .bl b => .ret b
  | _ => .fail
def xAndV (a b : XE) : XE := fun pe => (a pe).bind fun p => (asB p).bind fun c => if c = true then b pe else .ret (.bl false)
def xOrV (a b : XE) : XE := fun pe => (a pe).bind fun p => (asB p).bind fun c => if c = true then .ret (.bl true) else b pe
def xNotV (a : XE) : XE := fun pe => (a pe).bind fun p => (asB p).bind fun c => .ret (.bl (!c))
theorem asB_wp {p : Pv} {m : Nat} {Q : Bool → Nat → Prop} (h : (asB p).wp m Q) : ∃ c, p.D = .bl c ∧ Q c m := by
  cases p with
  | bl b => exact ⟨b, by rw [Pv.D], h⟩
  | _ => exact h.elim
theorem xandv {x y : XE} (h : De X e (dAndV (rd x) (rd y))) : De X e (rd (xAndV x y)) := h.weak fun env m Q ⟨pe, hs, q⟩ => by
  refine ⟨pe, hs, (Tr.wp_bind.mp q).mono fun p m1 q => ?_⟩
  obtain ⟨c, e, q⟩ := asB_wp (Tr.wp_bind.mp q)
  refine ⟨c, e, ?_⟩
  cases c with
  | true => exact ⟨pe, hs, q⟩
  | false => exact q
theorem xorv {x y : XE} (h : De X e (dOrV (rd x) (rd y))) : De X e (rd (xOrV x y)) := h.weak fun env m Q ⟨pe, hs, q⟩ => by
  refine ⟨pe, hs, (Tr.wp_bind.mp q).mono fun p m1 q => ?_⟩
  obtain ⟨c, e, q⟩ := asB_wp (Tr.wp_bind.mp q)
  refine ⟨c, e, ?_⟩
  cases c with
  | true => exact q
  | false => exact ⟨pe, hs, q⟩
theorem xnotv {x : XE} (h : De X e (dNotV (rd x))) : De X e (rd (xNotV x)) := h.weak fun env m Q ⟨pe, hs, q⟩ => by
  refine ⟨pe, hs, (Tr.wp_bind.mp q).mono fun p m1 q => ?_⟩
  obtain ⟨c, e, q⟩ := asB_wp (Tr.wp_bind.mp q)
  exact ⟨c, e, q⟩
def truP (p : Pv) : Tr Bool := match p with
  | .str z => .ok (sz z.length) (.ret (decide (0 < z.length)))
  | .lst l => .ret (!l.isEmpty)
  | .tup l => .ret (!l.isEmpty)
  | .int i => .ret (i != 0)
  | .bl b => .ret b
  | .non => .ret false
  | _ => .fail
theorem PDs_emp (l : List Pv) : (PDs l).isEmpty = l.isEmpty := by cases l <;> simp [PDs]
theorem truP_wp {p : Pv} {m : Nat} {Q : Bool → Nat → Prop} (h : (truP p).wp m Q) : truD p.D fun k => Q k m := by
  cases p with
  | str z => obtain ⟨h1, h2⟩ := Tr.wp_ok h; rw [Pv.D]; exact ⟨of_decide_eq_true h1, h2⟩
  | lst l => rw [Pv.D]; unfold truD; dsimp only; rw [PDs_emp]; exact h
  | tup l => rw [Pv.D]; unfold truD; dsimp only; rw [PDs_emp]; exact h
  | int i => rw [Pv.D]; exact h
  | bl b => rw [Pv.D]; exact h
  | non => rw [Pv.D]; exact h
  | _ => exact h.elim
theorem truD_mono {d : D} {Q R : Bool → Prop} (h : truD d Q) (g : ∀ k, Q k → R k) : truD d R := by
  unfold truD at h ⊢
  split at h
  · exact ⟨h.1, g _ h.2⟩
  · exact g _ h
  · exact g _ h
  · exact g _ h
  · exact g _ h
  · exact g _ h
  · exact h.elim
def xOrT (a b : XE) : XE := fun pe => (a pe).bind fun p => (truP p).bind fun c => if c = true then .ret p else b pe
theorem xort {x y : XE} (h : De X e (dOrT (rd x) (rd y))) : De X e (rd (xOrT x y)) := h.weak fun env m Q ⟨pe, hs, q⟩ => by
  refine ⟨pe, hs, (Tr.wp_bind.mp q).mono fun p m1 q => truD_mono (truP_wp (Tr.wp_bind.mp q)) fun c q => ?_⟩
  cases c with
  | true => exact q
  | false => exact ⟨pe, hs, q⟩
def isNon : Pv → Bool
  | .non => true
  | _ => false
def xIsN (neg : Bool) (x : XE) : XE := fun pe => (x pe).bind fun p => .ret (.bl (isNon p != neg))
theorem xisN {neg : Bool} {x : XE} (h : De X e (dIsN neg (rd x))) : De X e (rd (xIsN neg x)) := h.weak fun env m Q ⟨pe, hs, q⟩ => by
  refine ⟨pe, hs, (Tr.wp_bind.mp q).mono fun p m1 q => ?_⟩
  cases p <;> exact q
/-! tests -/
def xB (x : XE) : XT := fun pe => (x pe).bind asB
def xAnd (a b : XT) : XT := fun pe => (a pe).bind fun c => if c = true then b pe else .ret false
def xOr (a b : XT) : XT := fun pe => (a pe).bind fun c => if c = true then .ret true else b pe
def xNot (a : XT) : XT := fun pe => (a pe).bind fun c => .ret (!c)
def xTru (x : XE) : XT := fun pe => (x pe).bind truP
def xYes : XT := fun _ => .ret true
theorem dB_of {x : XE} {env m} {Q : Bool → Nat → Prop} (h : rdT (xB x) env m Q) : dB (rd x) env m Q := by
  obtain ⟨pe, hs, q⟩ := h
  refine ⟨pe, hs, (Tr.wp_bind.mp q).mono fun p m1 q => ?_⟩
  obtain ⟨c, e, q⟩ := asB_wp q
  exact ⟨c, e, q⟩
theorem xtb {x : XE} (h : Dt X e (dB (rd x))) : Dt X e (rdT (xB x)) := h.weak fun env m Q q => dB_of q
theorem xtbin {t : D2} {g : X2} {x y : XE} (ho : OpX t g) (h : Dt X e (dB (dBin t (rd x) (rd y)))) : Dt X e (rdT (xB (xBin g x y))) := h.weak fun env m Q ⟨pe, hs, q⟩ => by
  refine bin_of ho ⟨pe, hs, (Tr.wp_bind.mp q).mono fun p m1 q => ?_⟩
  obtain ⟨c, e, q⟩ := asB_wp q
  exact ⟨c, e, q⟩
theorem xtis {neg : Bool} {x : XE} (h : Dt X e (dB (dIsN neg (rd x)))) : Dt X e (rdT (xB (xIsN neg x))) := h.weak fun env m Q ⟨pe, hs, q⟩ => by
  refine ⟨pe, hs, (Tr.wp_bind.mp (Tr.wp_bind.mp q)).mono fun p m1 q => ⟨_, rfl, ?_⟩⟩
  cases p <;> exact q
theorem xttru {x : XE} (h : Dt X e (dTru (rd x))) : Dt X e (rdT (xTru x)) := h.weak fun env m Q ⟨pe, hs, q⟩ => ⟨pe, hs, (Tr.wp_bind.mp q).mono fun p m1 q => truP_wp q⟩
theorem xwand {x y : XT} (h : Dw X e (dAnd (rdT x) (rdT y))) : Dw X e (rdT (xAnd x y)) := h.weak fun env m Q ⟨pe, hs, q⟩ => by
  refine ⟨pe, hs, (Tr.wp_bind.mp q).mono fun c m1 q => ?_⟩
  cases c with
  | true => exact ⟨pe, hs, q⟩
  | false => exact q
theorem xwor {x y : XT} (h : Dw X e (dOr (rdT x) (rdT y))) : Dw X e (rdT (xOr x y)) := h.weak fun env m Q ⟨pe, hs, q⟩ => by
  refine ⟨pe, hs, (Tr.wp_bind.mp q).mono fun c m1 q => ?_⟩
  cases c with
  | true => exact q
  | false => exact ⟨pe, hs, q⟩
theorem xtnot {x : XT} (h : Dt X e (dNot (rdT x))) : Dt X e (rdT (xNot x)) := h.weak fun env m Q ⟨pe, hs, q⟩ => ⟨pe, hs, (Tr.wp_bind.mp q).mono fun c m1 q => q⟩
def xIf (c : XT) (x y : XE) : XE := fun pe => (c pe).bind fun k => if k = true then x pe else y pe
theorem xif {c : XT} {x y : XE} (h : De X e (dIf (rdT c) (rd x) (rd y))) : De X e (rd (xIf c x y)) := h.weak fun env m Q ⟨pe, hs, q⟩ => by
  refine ⟨pe, hs, (Tr.wp_bind.mp q).mono fun k m1 q => ?_⟩
  cases k with
  | true => exact ⟨pe, hs, q⟩
  | false => exact ⟨pe, hs, q⟩
def xChain (g1 g2 : X2) (a b c : XE) : XE := fun pe => (a pe).bind fun p => (b pe).bind fun q => (g1 p q).bind fun z => (asB z).bind fun k => if k = true then (c pe).bind fun r => g2 q r else .ret (.bl false)
theorem xchain {t u : D2} {g1 g2 : X2} {x y z : XE} (h1 : OpX t g1) (h2 : OpX u g2) (h : De X e (dChain t u (rd x) (rd y) (rd z))) : De X e (rd (xChain g1 g2 x y z)) := h.weak fun env m Q ⟨pe, hs, q⟩ => by
  refine ⟨pe, hs, (Tr.wp_bind.mp q).mono fun p m1 q => ⟨pe, hs, (Tr.wp_bind.mp q).mono fun r m2 q => h1 _ _ _ _ ((Tr.wp_bind.mp q).mono fun v m3 q => ?_)⟩⟩
  obtain ⟨c, e, q⟩ := asB_wp (Tr.wp_bind.mp q)
  refine ⟨c, e, ?_⟩
  cases c with
  | true => exact ⟨pe, hs, (Tr.wp_bind.mp q).mono fun v m4 q => h2 _ _ _ _ q⟩
  | false => exact q
def gNeg (p : Pv) : Tr Pv := match p with
  | .int i => .ret (.int (-i))
  | _ => .fail
theorem xneg {x : XE} (h : De X e (dNeg (rd x))) : De X e (rd (xMap gNeg x)) := h.weak fun env m Q ⟨pe, hs, q⟩ => by
  refine ⟨pe, hs, (Tr.wp_bind.mp q).mono fun p m1 q => ?_⟩
  cases p with
  | int i => exact ⟨i, by rw [Pv.D], q⟩
  | _ => exact q.elim
end
end TC
namespace TC
open PySem PySem.Spec PyProof.Rows L2
variable [Cl]
def cp (z : Str) : List Nat := z.cps.toList
theorem cp_len (z : Str) : (cp z).length = z.length := by show z.cps.toList.length = z.cps.size; simp
theorem cp_inj {x y : Str} (h : cp x = cp y) : x = y := by
  obtain ⟨⟨a⟩⟩ := x; obtain ⟨⟨b⟩⟩ := y
  have : a = b := h
  rw [this]
theorem cp_app (x y : Str) : cp (x ++ y) = cp x ++ cp y := by
  show (x.cps ++ y.cps).toList = _
  simp [cp]
theorem joinL_nil : ∀ l : List (List Nat), TL.joinL [] l = l.flatten
  | [] => rfl
  | [p] => by simp [TL.joinL]
  | p :: q :: r => by
    rw [TL.joinL, joinL_nil (q :: r)]
    simp
theorem cp_join {a : Str} (h : cp a = []) (ys : List Str) : cp (Txt.join a ys) = (ys.map cp).flatten := by
  have e1 : cp (Txt.join a ys) = TL.tl (Txt.join a ys) := rfl
  rw [e1, TL.join_eq, TL.tl_join]
  have e2 : TL.tl a = [] := h
  rw [e2, joinL_nil]
  rfl
theorem cp_cut0 (z : Str) (n : Nat) (h : n ≤ z.length) : cp (cutS z none (some (n : Int))) = (cp z).take n := by
  unfold cutS cp
  rw [HT.sIx_none, HT.sIx_nat, Nat.min_eq_left h]
  simp
theorem cp_cut1 (z : Str) (n : Nat) (h : n ≤ z.length) : cp (cutS z (some (n : Int)) none) = (cp z).drop n := by
  unfold cutS cp
  rw [HT.sIx_none, HT.sIx_nat, Nat.min_eq_left h]
  have e : z.length = z.cps.toList.length := by simp [Str.length]
  rw [e]
  have e2 : (z.cps.toList.drop n).length = z.cps.toList.length - n := by simp
  rw [← e2, List.take_length]
/-- one sign -/
def sg (c : Nat) : Str := ⟨#[c]⟩
theorem cp_sg (c : Nat) : cp (sg c) = [c] := rfl
/-! ### the order of texts -/
def ltZ (a b : Str) : Bool := ltCps (cp a) (cp b)
theorem lc_irr : ∀ a : List Nat, ltCps a a = false
  | [] => rfl
  | x :: r => by simp [ltCps, lc_irr r]
theorem lc_trans : ∀ {a b c : List Nat}, ltCps a b = true → ltCps b c = true → ltCps a c = true
  | [], [], c, h, _ => by simp [ltCps] at h
  | [], b :: s, [], _, h => by simp [ltCps] at h
  | [], b :: s, c :: t, _, _ => rfl
  | a :: r, [], c, h, _ => by simp [ltCps] at h
  | a :: r, b :: s, [], _, h => by simp [ltCps] at h
  | a :: r, b :: s, c :: t, h, g => by
    simp only [ltCps, Bool.or_eq_true, Bool.and_eq_true, decide_eq_true_eq, beq_iff_eq] at h g ⊢
    rcases h with h | ⟨rfl, h⟩
    · rcases g with g | ⟨rfl, g⟩
      · exact .inl (by omega)
      · exact .inl h
    · rcases g with g | ⟨rfl, g⟩
      · exact .inl g
      · exact .inr ⟨rfl, lc_trans h g⟩
theorem lc_tot : ∀ {a b : List Nat}, a ≠ b → ltCps a b = true ∨ ltCps b a = true
  | [], [], h => absurd rfl h
  | [], b :: s, _ => .inl rfl
  | a :: r, [], _ => .inr rfl
  | a :: r, b :: s, h => by
    simp only [ltCps, Bool.or_eq_true, Bool.and_eq_true, decide_eq_true_eq, beq_iff_eq]
    by_cases e : a = b
    · subst e
      have h2 : r ≠ s := fun e => h (by rw [e])
      rcases lc_tot h2 with g | g
      · exact .inl (.inr ⟨rfl, g⟩)
      · exact .inr (.inr ⟨rfl, g⟩)
    · rcases Nat.lt_or_gt_of_ne e with g | g
      · exact .inl (.inl g)
      · exact .inr (.inl g)
theorem lt_irr (a : Str) : ltZ a a = false := lc_irr _
theorem lt_trans {a b c : Str} (h : ltZ a b = true) (g : ltZ b c = true) : ltZ a c = true := lc_trans h g
theorem lt_tot {a b : Str} (h : a ≠ b) : ltZ a b = true ∨ ltZ b a = true := lc_tot fun e => h (cp_inj e)
theorem lt_ne {a b : Str} (h : ltZ a b = true) : a ≠ b := fun e => by rw [e, lt_irr] at h; cases h
theorem lt_asym {a b : Str} (h : ltZ a b = true) : ltZ b a = false := by
  cases e : ltZ b a with
  | false => rfl
  | true => have := lt_trans h e; rw [lt_irr] at this; cases this
/-! ### sets of texts: ascending -/
def SetS (l : List Str) : Prop := l.Pairwise fun a b => ltZ a b = true
theorem SetS.nil : SetS [] := List.Pairwise.nil
theorem SetS.nodup {l : List Str} (h : SetS l) : l.Nodup := List.Pairwise.imp (fun {a b} h => lt_ne h) h
theorem setS_ext : ∀ {l r : List Str}, SetS l → SetS r → (∀ x, x ∈ l ↔ x ∈ r) → l = r
  | [], [], _, _, _ => rfl
  | [], b :: r, _, _, e => by have := (e b).mpr (List.mem_cons_self ..); cases this
  | a :: l, [], _, _, e => by have := (e a).mp (List.mem_cons_self ..); cases this
  | a :: l, b :: r, h, g, e => by
    have h1 := List.pairwise_cons.mp h
    have g1 := List.pairwise_cons.mp g
    have hab : a = b := by
      have m1 : a ∈ b :: r := (e a).mp (List.mem_cons_self ..)
      have m2 : b ∈ a :: l := (e b).mpr (List.mem_cons_self ..)
      rcases List.mem_cons.mp m1 with q | q
      · exact q
      · rcases List.mem_cons.mp m2 with q2 | q2
        · exact q2.symm
        · have z1 := g1.1 a q
          have z2 := h1.1 b q2
          rw [lt_asym z1] at z2
          cases z2
    subst hab
    congr 1
    refine setS_ext h1.2 g1.2 fun x => ?_
    have hx := e x
    constructor
    · intro m
      rcases List.mem_cons.mp (hx.mp (List.mem_cons_of_mem _ m)) with q | q
      · subst q
        exact absurd rfl (lt_ne (h1.1 x m))
      · exact q
    · intro m
      rcases List.mem_cons.mp (hx.mpr (List.mem_cons_of_mem _ m)) with q | q
      · subst q
        exact absurd rfl (lt_ne (g1.1 x m))
      · exact q
def insS (t : Str) : List Str → List Str
  | [] => [t]
  | x :: r => if t = x then x :: r else if ltZ t x = true then t :: x :: r else x :: insS t r
theorem mem_insS {t x : Str} : ∀ {l : List Str}, x ∈ insS t l ↔ x = t ∨ x ∈ l
  | [] => by simp [insS]
  | y :: r => by
    rw [insS]
    by_cases h : t = y
    · subst h
      rw [if_pos rfl]
      simp only [List.mem_cons]
      constructor
      · exact fun q => .inr q
      · rintro (q | q)
        · exact .inl q
        · exact q
    · rw [if_neg h]
      split
      · simp only [List.mem_cons]
      · rw [List.mem_cons, mem_insS (l := r), List.mem_cons]
        constructor
        · rintro (q | q | q)
          · exact .inr (.inl q)
          · exact .inl q
          · exact .inr (.inr q)
        · rintro (q | q | q)
          · exact .inr (.inl q)
          · exact .inl q
          · exact .inr (.inr q)
theorem setS_ins {t : Str} : ∀ {l : List Str}, SetS l → SetS (insS t l)
  | [], _ => by simp [insS, SetS]
  | y :: r, h => by
    have h1 := List.pairwise_cons.mp h
    rw [insS]
    by_cases e : t = y
    · rw [if_pos e]; exact h
    · rw [if_neg e]
      by_cases g : ltZ t y = true
      · rw [if_pos g]
        refine List.pairwise_cons.mpr ⟨fun x hx => ?_, h⟩
        rcases List.mem_cons.mp hx with rfl | hx
        · exact g
        · exact lt_trans g (h1.1 x hx)
      · rw [if_neg g]
        refine List.pairwise_cons.mpr ⟨fun x hx => ?_, setS_ins h1.2⟩
        rcases mem_insS.mp hx with rfl | hx
        · exact (lt_tot e).resolve_left g
        · exact h1.1 x hx
theorem insS_mem {t : Str} {l : List Str} (hl : SetS l) (h : t ∈ l) : insS t l = l := setS_ext (setS_ins hl) hl fun x => by
  rw [mem_insS]
  exact ⟨fun q => q.elim (fun e => by rw [e]; exact h) id, .inr⟩
theorem insS_len {t : Str} : ∀ {l : List Str}, (insS t l).length ≤ l.length + 1
  | [] => Nat.le_refl _
  | x :: r => by
    rw [insS]
    split
    · exact Nat.le_succ _
    · split
      · exact Nat.le_refl _
      · rw [List.length_cons, List.length_cons]; exact Nat.succ_le_succ insS_len
theorem insS_len_new {t : Str} : ∀ {l : List Str}, t ∉ l → (insS t l).length = l.length + 1
  | [], _ => rfl
  | x :: r, h => by
    rw [insS, if_neg fun e => h (by rw [e]; exact List.mem_cons_self ..)]
    split
    · rfl
    · rw [List.length_cons, List.length_cons, insS_len_new fun m => h (List.mem_cons_of_mem _ m)]
/-- what sorted gives of different texts -/
theorem rising_le : ∀ {r : List Str} {p : Str}, risingS p r = true → ∀ x ∈ r, ltZ x p = false
  | [], _, _, x, hx => by cases hx
  | y :: r, p, h, x, hx => by
    simp only [risingS, Bool.and_eq_true, Bool.not_eq_true'] at h
    have h1 : ltZ y p = false := h.1
    rcases List.mem_cons.mp hx with rfl | hx
    · exact h1
    · have h2 := rising_le h.2 x hx
      cases e : ltZ x p with
      | false => rfl
      | true =>
        by_cases q : x = y
        · rw [q, h1] at e; cases e
        · rcases lt_tot q with q | q
          · rw [q] at h2; cases h2
          · have := lt_trans q e
            rw [h1] at this; cases this
theorem sorted_set : ∀ {ys : List Str}, sortedS ys = true → ys.Nodup → SetS ys
  | [], _, _ => .nil
  | y :: r, h, nd => by
    have nd1 := List.nodup_cons.mp nd
    have h1 : risingS y r = true := h
    refine List.pairwise_cons.mpr ⟨fun x hx => ?_, ?_⟩
    · have h2 := rising_le h1 x hx
      have ne : y ≠ x := fun e => nd1.1 (e ▸ hx)
      exact (lt_tot ne).resolve_right (by rw [h2]; exact Bool.false_ne_true)
    · cases r with
      | nil => exact .nil
      | cons z r =>
        simp only [risingS, Bool.and_eq_true] at h1
        exact sorted_set (ys := z :: r) h1.2 nd1.2
theorem sorted_ins {ns ys : List Str} {t : Str} (hs : SetS ns) (ht : t ∉ ns) (p : ys.Perm (ns ++ [t])) (h : sortedS ys = true) : ys = insS t ns := by
  have nd : (ns ++ [t]).Nodup := by
    rw [List.nodup_append]
    refine ⟨hs.nodup, by simp, fun a ha b hb => ?_⟩
    rw [List.mem_singleton] at hb
    subst hb
    exact fun e => ht (e ▸ ha)
  refine setS_ext (sorted_set h (p.nodup_iff.mpr nd)) (setS_ins hs) fun x => ?_
  rw [p.mem_iff, mem_insS, List.mem_append, List.mem_singleton]
  exact ⟨fun q => q.elim .inr .inl, fun q => q.elim .inr .inl⟩

/-! ### sorted, with equal ones -/
def putS (t : Str) : List Str → List Str
  | [] => [t]
  | x :: r => if ltZ x t = true then x :: putS t r else t :: x :: r
def sortS : List Str → List Str
  | [] => []
  | x :: r => putS x (sortS r)
def LeS (l : List Str) : Prop := l.Pairwise fun a b => ltZ b a = false
theorem putS_perm {t : Str} : ∀ {l : List Str}, (putS t l).Perm (t :: l)
  | [] => .refl _
  | x :: r => by
    rw [putS]
    split
    · exact ((putS_perm (l := r)).cons x).trans (.swap ..)
    · exact .refl _
theorem sortS_perm : ∀ {l : List Str}, (sortS l).Perm l
  | [] => .refl _
  | x :: r => putS_perm.trans (sortS_perm.cons x)
theorem leS_put {t : Str} : ∀ {l : List Str}, LeS l → LeS (putS t l)
  | [], _ => by simp [putS, LeS]
  | x :: r, h => by
    have h1 := List.pairwise_cons.mp h
    rw [putS]
    split
    · next g =>
      refine List.pairwise_cons.mpr ⟨fun y hy => ?_, leS_put h1.2⟩
      rcases List.mem_cons.mp (putS_perm.mem_iff.mp hy) with rfl | hy
      · exact lt_asym g
      · exact h1.1 y hy
    · next g =>
      refine List.pairwise_cons.mpr ⟨fun y hy => ?_, h⟩
      rcases List.mem_cons.mp hy with rfl | hy
      · simpa using g
      · have g2 : ltZ x t = false := by simpa using g
        have h2 := h1.1 y hy
        cases e : ltZ y t with
        | false => rfl
        | true =>
          by_cases q : t = x
          · subst q; rw [e] at h2; cases h2
          · have q2 := (lt_tot q).resolve_right (by rw [g2]; exact Bool.false_ne_true)
            rw [lt_trans e q2] at h2; cases h2
theorem leS_sort : ∀ {l : List Str}, LeS (sortS l)
  | [] => .nil
  | x :: r => leS_put leS_sort
theorem leS_of : ∀ {l : List Str}, sortedS l = true → LeS l
  | [], _ => .nil
  | x :: r, h => by
    have h1 : risingS x r = true := h
    refine List.pairwise_cons.mpr ⟨rising_le h1, ?_⟩
    cases r with
    | nil => exact .nil
    | cons y r =>
      simp only [risingS, Bool.and_eq_true] at h1
      exact leS_of (l := y :: r) h1.2
theorem leS_ext : ∀ {l r : List Str}, LeS l → LeS r → l.Perm r → l = r
  | [], r, _, _, p => p.nil_eq
  | x :: l, [], _, _, p => by have := p.length_eq; simp at this
  | x :: l, y :: r, h, g, p => by
    have h1 := List.pairwise_cons.mp h
    have g1 := List.pairwise_cons.mp g
    have e : x = y := by
      rcases List.mem_cons.mp (p.mem_iff.mp (List.mem_cons_self ..)) with q | q
      · exact q
      · rcases List.mem_cons.mp (p.mem_iff.mpr (List.mem_cons_self (a := y) (l := r))) with q2 | q2
        · exact q2.symm
        · have z1 := g1.1 x q
          have z2 := h1.1 y q2
          by_cases e : x = y
          · exact e
          · rcases lt_tot e with w | w
            · rw [w] at z1; cases z1
            · rw [w] at z2; cases z2
    subst e
    rw [leS_ext h1.2 g1.2 (List.Perm.cons_inv p)]
theorem sortS_of {xs ys : List Str} (p : ys.Perm xs) (h : sortedS ys = true) : ys = sortS xs := leS_ext (leS_of h) leS_sort (p.trans sortS_perm.symm)
/-- the set of texts -/
def setOf (xs : List Str) : List Str := xs.foldl (fun s x => insS x s) []
theorem setOf_acc : ∀ (xs acc : List Str), SetS acc → SetS (xs.foldl (fun s x => insS x s) acc) ∧ ∀ z, z ∈ xs.foldl (fun s x => insS x s) acc ↔ z ∈ xs ∨ z ∈ acc
  | [], acc, h => ⟨h, fun z => by simp⟩
  | x :: xs, acc, h => by
    obtain ⟨h1, h2⟩ := setOf_acc xs (insS x acc) (setS_ins h)
    refine ⟨h1, fun z => (h2 z).trans ?_⟩
    rw [mem_insS, List.mem_cons]
    constructor
    · rintro (q | q | q)
      · exact .inl (.inr q)
      · exact .inl (.inl q)
      · exact .inr q
    · rintro ((q | q) | q)
      · exact .inr (.inl q)
      · exact .inl q
      · exact .inr (.inr q)
theorem setOf_set (xs : List Str) : SetS (setOf xs) := (setOf_acc xs [] .nil).1
theorem mem_setOf {xs : List Str} {z : Str} : z ∈ setOf xs ↔ z ∈ xs := ((setOf_acc xs [] .nil).2 z).trans (by simp)
theorem setOf_of {xs ys : List Str} (nd : ys.Nodup) (h : ∀ z, z ∈ ys ↔ z ∈ xs) (s : sortedS ys = true) : ys = setOf xs := setS_ext (sorted_set s nd) (setOf_set xs) fun z => by rw [h, mem_setOf]
section
variable {X : Cx} {o e : Expr} {to te : DE}
theorem de_join {apos pos : Pos} (ho : De X o to) (he : De X e te) (hs : starEach [e] X.env = [(false, eval e X.env)] := by rfl) (hbase : attributeBase o "join" X.env (eval o X.env) = eval o X.env := by rfl) (hline : (apos.endLine == pos.line) = true := by rfl) (hK : X.K = Cl.K := by rfl) :
    De X (.Call (.Attribute o "join" apos) [e] [] pos) (fun env m Q => to env m fun x m1 => ∃ a, x = .str a ∧ te env m1 fun y m2 => ∃ ys : List Str, Sq y (ys.map D.str) ∧ (ys.map (·.length)).sum + ys.length * a.length ≤ 16777216 ∧ Q (.str (Txt.join a ys)) m2) := by
  refine ⟨fun w σ H env m Q' Q sl hu h c => wp_of (pe_join pe_self pe_self hs hbase hline) ?_⟩
  refine ho.run w σ H env m _ _ sl hu h fun v d m1 H1 f1 u1 h1 q1 => ?_
  obtain ⟨a, rfl, q1⟩ := q1
  rw [Hd.str] at h1
  subst h1
  refine ⟨⟨a, rfl⟩, ?_⟩
  refine he.run w σ H1 env m1 _ _ (sl.fr f1) u1 q1 fun v2 d2 m2 H2 f2 u2 h2 q2 => ?_
  obtain ⟨ys, hq, hz, q⟩ := q2
  have fl : (ys.map D.str).all flatD = true := by rw [List.all_eq_true]; intro d hd; obtain ⟨b, _, rfl⟩ := List.mem_map.mp hd; rfl
  have e : (ys.map D.str).map fv = ys.map V.str := by rw [List.map_map]; rfl
  rcases hq with rfl | rfl
  · rw [Hd.tup] at h2
    obtain ⟨p, vs, rfl, hp, hds⟩ := h2
    have := hds.flat fl
    rw [e] at this; subst this
    exact ⟨a, p, ys, rfl, rfl, .inr (hp.sq hK), hz, c _ _ _ _ (f1.trans f2) u2 (Hd.str.mpr rfl) q⟩
  · rw [Hd.lst] at h2
    obtain ⟨p, vs, rfl, _, hp, hds⟩ := h2
    have := hds.flat fl
    rw [e] at this; subst this
    exact ⟨a, p, ys, rfl, rfl, .inl (SqL.of hp), hz, c _ _ _ _ (f1.trans f2) u2 (Hd.str.mpr rfl) q⟩
end
end TC
namespace TC
open PySem PySem.Spec PyProof.Rows L2
variable [Cl]
/-! ### looks at lists of one kind -/
def asBls : List Pv → Option (List Bool)
  | [] => some []
  | .bl b :: l => match asBls l with
    | some r => some (b :: r)
    | none => none
  | _ :: _ => none
def asInts : List Pv → Option (List Int)
  | [] => some []
  | .int b :: l => match asInts l with
    | some r => some (b :: r)
    | none => none
  | _ :: _ => none
def asStrs : List Pv → Option (List Str)
  | [] => some []
  | .str b :: l => match asStrs l with
    | some r => some (b :: r)
    | none => none
  | _ :: _ => none
theorem asBls_D : ∀ {l : List Pv} {r : List Bool}, asBls l = some r → PDs l = r.map D.bl
  | [], r, h => by cases h; rfl
  | p :: l, r, h => by
    cases p with
    | bl b =>
      rw [asBls] at h
      cases e : asBls l with
      | none => rw [e] at h; cases h
      | some q => rw [e] at h; cases h; rw [PDs, asBls_D e, Pv.D]; rfl
    | _ => cases h
theorem asInts_D : ∀ {l : List Pv} {r : List Int}, asInts l = some r → PDs l = r.map D.int
  | [], r, h => by cases h; rfl
  | p :: l, r, h => by
    cases p with
    | int b =>
      rw [asInts] at h
      cases e : asInts l with
      | none => rw [e] at h; cases h
      | some q => rw [e] at h; cases h; rw [PDs, asInts_D e, Pv.D]; rfl
    | _ => cases h
theorem asStrs_D : ∀ {l : List Pv} {r : List Str}, asStrs l = some r → PDs l = r.map D.str
  | [], r, h => by cases h; rfl
  | p :: l, r, h => by
    cases p with
    | str b =>
      rw [asStrs] at h
      cases e : asStrs l with
      | none => rw [e] at h; cases h
      | some q => rw [e] at h; cases h; rw [PDs, asStrs_D e, Pv.D]; rfl
    | _ => cases h
@[simp] theorem asBls_map : ∀ l : List Bool, asBls (l.map Pv.bl) = some l
  | [] => rfl
  | b :: l => by rw [List.map_cons, asBls, asBls_map l]
@[simp] theorem asInts_map : ∀ l : List Int, asInts (l.map Pv.int) = some l
  | [] => rfl
  | b :: l => by rw [List.map_cons, asInts, asInts_map l]
@[simp] theorem asStrs_map : ∀ l : List Str, asStrs (l.map Pv.str) = some l
  | [] => rfl
  | b :: l => by rw [List.map_cons, asStrs, asStrs_map l]
abbrev GA := List Pv → Tr Pv
def CallX (t : DSp) (g : GA) : Prop := ∀ ps m Q, (g ps).wp m (fun p m1 => Q p.D m1) → t (PDs ps) m Q
/-- a def by its program -/
def spX (g : GA) : DSp := fun ds m Q => ∃ ps, ds = PDs ps ∧ (g ps).wp m fun p m1 => Q p.D m1
theorem spX_call {g : GA} : CallX (spX g) g := fun ps m Q h => ⟨ps, rfl, h⟩
theorem spD_weak {sp sp' : DSp} (h : ∀ ds m Q, sp' ds m Q → sp ds m Q) {vs H Q E} (q : spD sp' vs H Q E) : spD sp vs H Q E := by
  obtain ⟨w, ds, m, Q', h1, h2, h3, h4⟩ := q
  exact ⟨w, ds, m, Q', h1, h2, h _ _ _ h3, h4⟩
section
variable {X : Cx} {e a b : Expr} {es : List Expr} {kws : List Keyword} {o : Option Expr} {tg : Expr} {sp : DSp} {g : GA}
def xCall (g : GA) (a : XA) : XE := fun pe => (a pe).bind g
theorem xcall {a : XA} (hc : CallX sp g) (h : De X e (dCall sp (rdA a))) : De X e (rd (xCall g a)) := h.weak fun env m Q ⟨pe, hs, q⟩ => ⟨pe, hs, (Tr.wp_bind.mp q).mono fun ps m1 q => hc _ _ _ q⟩
theorem xcall0 (hc : CallX sp g) (h : De X e (dCall sp dNil)) : De X e (rd (xCall g xNil)) := h.weak fun env m Q ⟨pe, hs, q⟩ => hc [] _ _ q
/-- all arguments by their names; r puts them in the def's order -/
def xCallK (n : Nat) (r : List Pv → List Pv) (g : GA) (a : XA) : XE := fun pe => (a pe).bind fun ps => .ok (ps.length == n) (g (r ps))
theorem xcallK {n : Nat} {r : List Pv → List Pv} {gD : List D → List D} {a : XA} (hr : ∀ ps : List Pv, ps.length = n → gD (PDs ps) = PDs (r ps)) (hc : CallX sp g)
    (h : De X e (fun env m Q => rdA a env m fun ds m1 => ds.length = n ∧ sp (gD ds) m1 Q)) : De X e (rd (xCallK n r g a)) := h.weak fun env m Q ⟨pe, hs, q⟩ => by
  refine ⟨pe, hs, (Tr.wp_bind.mp q).mono fun ps m1 q => ?_⟩
  obtain ⟨h1, q⟩ := Tr.wp_ok q
  have h1 : ps.length = n := by simpa using h1
  exact ⟨by rw [PDs_len]; exact h1, by rw [hr ps h1]; exact hc _ _ _ q⟩
/-! built-ins -/
def gLen : GA := fun ps => match ps with
  | [.lst l] => .ret (.int (l.length : Nat))
  | [.tup l] => .ret (.int (l.length : Nat))
  | [.str z] => .ok (sz z.length) (.ret (.int (z.length : Nat)))
  | _ => .fail
theorem cx_len : CallX lenD gLen := fun ps m Q h => by
  unfold gLen at h
  split at h
  · next l => rw [PDs, PDs, Pv.D]; unfold lenD; dsimp only; rw [PDs_len]; exact h
  · next l => rw [PDs, PDs, Pv.D]; unfold lenD; dsimp only; rw [PDs_len]; exact h
  · next z => obtain ⟨h1, h2⟩ := Tr.wp_ok h; rw [PDs, PDs, Pv.D]; exact ⟨of_decide_eq_true h1, h2⟩
  · exact h.elim
def gList : GA := fun ps => match ps with
  | [.lst l] => .ret (.lst l)
  | [.tup l] => .ret (.lst l)
  | _ => .fail
def gTuple : GA := fun ps => match ps with
  | [.lst l] => .ret (.tup l)
  | [.tup l] => .ret (.tup l)
  | _ => .fail
theorem cx_list : CallX (fun ds m Q => seqD ds fun l => Q (.lst l) m) gList := fun ps m Q h => by
  unfold gList at h
  split at h
  · next l => rw [PDs, PDs, Pv.D]; have h2 : Q (Pv.lst l).D m := h; rw [Pv.D] at h2; exact h2
  · next l => rw [PDs, PDs, Pv.D]; have h2 : Q (Pv.lst l).D m := h; rw [Pv.D] at h2; exact h2
  · exact h.elim
theorem cx_tuple : CallX tupD gTuple := fun ps m Q h => by
  unfold gTuple at h
  split at h
  · next l => rw [PDs, PDs, Pv.D]; have h2 : Q (Pv.tup l).D m := h; rw [Pv.D] at h2; exact h2
  · next l => rw [PDs, PDs, Pv.D]; have h2 : Q (Pv.tup l).D m := h; rw [Pv.D] at h2; exact h2
  · exact h.elim
def gInt : GA := fun ps => match ps with
  | [.int i] => .ret (.int i)
  | [.bl k] => .ret (.int (if k then 1 else 0))
  | [.str z] => .ok (decide (z.length ≤ 640)) (match PySem.intText? z with
    | some n => .ret (.int n)
    | none => .fail)
  | _ => .fail
theorem cx_int : CallX intD gInt := fun ps m Q h => by
  unfold gInt at h
  split at h
  · exact h
  · exact h
  · obtain ⟨h1, h2⟩ := Tr.wp_ok h
    split at h2
    · next n hn => exact ⟨n, hn, of_decide_eq_true h1, h2⟩
    · exact h2.elim
  · exact h.elim
def gStr : GA := fun ps => match ps with
  | [.int i] => .ok (decide (i.natAbs.log2 < 1920)) (.ret (.str (Str.ofString (toString i))))
  | [.str z] => .ret (.str z)
  | _ => .fail
theorem cx_str : CallX strD gStr := fun ps m Q h => by
  unfold gStr at h
  split at h
  · obtain ⟨h1, h2⟩ := Tr.wp_ok h; exact ⟨of_decide_eq_true h1, h2⟩
  · exact h
  · exact h.elim
def gAbs : GA := fun ps => match ps with
  | [.int i] => .ret (.int (if i < 0 then -i else i))
  | _ => .fail
theorem cx_abs : CallX (fun ds m Q => ∃ i, ds = [.int i] ∧ Q (.int (if i < 0 then -i else i)) m) gAbs := fun ps m Q h => by
  unfold gAbs at h
  split at h
  · exact ⟨_, rfl, h⟩
  · exact h.elim
def gAll : GA := fun ps => match ps with
  | [.lst l] => match asBls l with
    | some bs => .ret (.bl (bs.all fun b => b))
    | none => .fail
  | _ => .fail
def gAny : GA := fun ps => match ps with
  | [.lst l] => match asBls l with
    | some bs => .ret (.bl (bs.any fun b => b))
    | none => .fail
  | _ => .fail
theorem cx_all : CallX (fun ds m Q => ∃ bs : List Bool, ds = [.lst (bs.map D.bl)] ∧ Q (.bl (bs.all fun b => b)) m) gAll := fun ps m Q h => by
  unfold gAll at h
  split at h
  · split at h
    · next l _ bs e => exact ⟨bs, by rw [PDs, PDs, Pv.D, asBls_D e], h⟩
    · exact h.elim
  · exact h.elim
theorem cx_any : CallX (fun ds m Q => ∃ bs : List Bool, ds = [.lst (bs.map D.bl)] ∧ Q (.bl (bs.any fun b => b)) m) gAny := fun ps m Q h => by
  unfold gAny at h
  split at h
  · split at h
    · next l _ bs e => exact ⟨bs, by rw [PDs, PDs, Pv.D, asBls_D e], h⟩
    · exact h.elim
  · exact h.elim
def gMax2 : GA := fun ps => match ps with
  | [.int i, .int j] => .ret (.int (if j > i then j else i))
  | _ => .fail
def gMin2 : GA := fun ps => match ps with
  | [.int i, .int j] => .ret (.int (if j < i then j else i))
  | _ => .fail
theorem cx_max2 : CallX (fun ds m Q => ∃ i j, ds = [.int i, .int j] ∧ Q (.int (if j > i then j else i)) m) gMax2 := fun ps m Q h => by
  unfold gMax2 at h
  split at h
  · exact ⟨_, _, rfl, h⟩
  · exact h.elim
theorem cx_min2 : CallX (fun ds m Q => ∃ i j, ds = [.int i, .int j] ∧ Q (.int (if j < i then j else i)) m) gMin2 := fun ps m Q h => by
  unfold gMin2 at h
  split at h
  · exact ⟨_, _, rfl, h⟩
  · exact h.elim
def gSum : GA := fun ps => match ps with
  | [.lst l] => match asInts l with
    | some ns => .ret (.int ns.sum)
    | none => .fail
  | _ => .fail
theorem cx_sum : CallX (fun ds m Q => ∃ ns : List Int, ds = [.lst (ns.map D.int)] ∧ Q (.int ns.sum) m) gSum := fun ps m Q h => by
  unfold gSum at h
  split at h
  · split at h
    · next l _ bs e => exact ⟨bs, by rw [PDs, PDs, Pv.D, asInts_D e], h⟩
    · exact h.elim
  · exact h.elim
def minF (i : Int) : List Int → Int
  | [] => i
  | x :: l => minF (if x < i then x else i) l
theorem minF_spec : ∀ (l : List Int) (i : Int), (minF i l = i ∨ minF i l ∈ l) ∧ minF i l ≤ i ∧ ∀ y ∈ l, minF i l ≤ y
  | [], i => ⟨.inl rfl, Int.le_refl _, nofun⟩
  | x :: l, i => by
    obtain ⟨h1, h2, h3⟩ := minF_spec l (if x < i then x else i)
    have e : minF i (x :: l) = minF (if x < i then x else i) l := rfl
    rw [e]
    generalize minF (if x < i then x else i) l = v at *
    have h4 : (if x < i then x else i) ≤ i ∧ (if x < i then x else i) ≤ x := by split <;> omega
    refine ⟨?_, by omega, fun y hy => ?_⟩
    · rcases h1 with h1 | h1
      · by_cases hx : x < i
        · rw [if_pos hx] at h1; exact .inr (by rw [h1]; exact List.mem_cons_self ..)
        · rw [if_neg hx] at h1; exact .inl h1
      · exact .inr (List.mem_cons_of_mem _ h1)
    · rcases List.mem_cons.mp hy with rfl | hy
      · omega
      · exact h3 y hy
def gMin1 : GA := fun ps => match ps with
  | [.lst l] => match asInts l with
    | some (i :: r) => .ret (.int (minF i r))
    | _ => .fail
  | _ => .fail
theorem cx_min1 : CallX (fun ds m Q => ∃ ns : List Int, ds = [.lst (ns.map D.int)] ∧ 0 < ns.length ∧ ∀ x, x ∈ ns → (∀ y, y ∈ ns → x ≤ y) → Q (.int x) m) gMin1 := fun ps m Q h => by
  unfold gMin1 at h
  split at h
  · split at h
    · next l _ i r e =>
      refine ⟨i :: r, by rw [PDs, PDs, Pv.D, asInts_D e], by simp, fun x hx hle => ?_⟩
      obtain ⟨h1, h2, h3⟩ := minF_spec r i
      have hv : x = minF i r := by
        have a1 : x ≤ minF i r := by
          rcases h1 with h1 | h1
          · rw [h1]; exact hle _ (List.mem_cons_self ..)
          · exact hle _ (List.mem_cons_of_mem _ h1)
        have a2 : minF i r ≤ x := by
          rcases List.mem_cons.mp hx with rfl | hx
          · exact h2
          · exact h3 x hx
        omega
      rw [hv]; exact h
    · exact h.elim
  · exact h.elim
/-- sorted of a list or a tuple of texts -/
def gSortL : GA := fun ps => match ps with
  | [.lst l] => match asStrs l with
    | some xs => .ok (decide (xs.length < 64)) (.ret (.lst ((sortS xs).map Pv.str)))
    | none => .fail
  | _ => .fail
def gSortT : GA := fun ps => match ps with
  | [.tup l] => match asStrs l with
    | some xs => .ok (decide (xs.length < 64)) (.ret (.lst ((sortS xs).map Pv.str)))
    | none => .fail
  | _ => .fail
theorem PDs_strs (xs : List Str) : PDs (xs.map Pv.str) = xs.map D.str := asStrs_D (asStrs_map xs)
theorem cx_sortL : CallX (fun ds m Q => ∃ xs : List Str, ds = [.lst (xs.map D.str)] ∧ xs.length < 64 ∧ ∀ ys : List Str, ys.Perm xs → sortedS ys = true → Q (.lst (ys.map D.str)) m) gSortL := fun ps m Q h => by
  unfold gSortL at h
  split at h
  · split at h
    · next l _ bs e =>
      obtain ⟨h1, h2⟩ := Tr.wp_ok h
      refine ⟨bs, by rw [PDs, PDs, Pv.D, asStrs_D e], of_decide_eq_true h1, fun ys p s => ?_⟩
      rw [sortS_of p s]
      have h3 : Q (Pv.lst ((sortS bs).map Pv.str)).D m := h2
      rw [Pv.D, PDs_strs] at h3; exact h3
    · exact h.elim
  · exact h.elim
theorem cx_sortT : CallX (fun ds m Q => ∃ xs : List Str, ds = [.tup (xs.map D.str)] ∧ xs.length < 64 ∧ ∀ ys : List Str, ys.Perm xs → sortedS ys = true → Q (.lst (ys.map D.str)) m) gSortT := fun ps m Q h => by
  unfold gSortT at h
  split at h
  · split at h
    · next l _ bs e =>
      obtain ⟨h1, h2⟩ := Tr.wp_ok h
      refine ⟨bs, by rw [PDs, PDs, Pv.D, asStrs_D e], of_decide_eq_true h1, fun ys p s => ?_⟩
      rw [sortS_of p s]
      have h3 : Q (Pv.lst ((sortS bs).map Pv.str)).D m := h2
      rw [Pv.D, PDs_strs] at h3; exact h3
    · exact h.elim
  · exact h.elim
/-! sets of texts -/
def gSortSetL (p : Pv) : Tr Pv := match p with
  | .lst l => match asStrs l with
    | some xs => .ok (decide (xs.length < 64)) (.ret (.lst ((setOf xs).map Pv.str)))
    | none => .fail
  | _ => .fail
def gSortSetT (p : Pv) : Tr Pv := match p with
  | .tup l => match asStrs l with
    | some xs => .ok (decide (xs.length < 64)) (.ret (.lst ((setOf xs).map Pv.str)))
    | none => .fail
  | _ => .fail
theorem xsortsetL {x : XE} (h : De X e (dSortSet (rd x))) : De X e (rd (xMap gSortSetL x)) := h.weak fun env m Q ⟨pe, hs, q⟩ => by
  refine ⟨pe, hs, (Tr.wp_bind.mp q).mono fun p m1 q => ?_⟩
  unfold gSortSetL at q
  split at q
  · split at q
    · next l _ xs e =>
      obtain ⟨h1, h2⟩ := Tr.wp_ok q
      refine ⟨xs, by rw [Pv.D, asStrs_D e], of_decide_eq_true h1, fun ys nd hm s => ?_⟩
      rw [setOf_of nd hm s]
      have h3 : Q (Pv.lst ((setOf xs).map Pv.str)).D m1 := h2
      rw [Pv.D, PDs_strs] at h3; exact h3
    · exact q.elim
  · exact q.elim
theorem xsortsetT {x : XE} (h : De X e (dSortSetT (rd x))) : De X e (rd (xMap gSortSetT x)) := h.weak fun env m Q ⟨pe, hs, q⟩ => by
  refine ⟨pe, hs, (Tr.wp_bind.mp q).mono fun p m1 q => ?_⟩
  unfold gSortSetT at q
  split at q
  · split at q
    · next l _ xs e =>
      obtain ⟨h1, h2⟩ := Tr.wp_ok q
      refine ⟨xs, by rw [Pv.D, asStrs_D e], of_decide_eq_true h1, fun ys nd hm s => ?_⟩
      rw [setOf_of nd hm s]
      have h3 : Q (Pv.lst ((setOf xs).map Pv.str)).D m1 := h2
      rw [Pv.D, PDs_strs] at h3; exact h3
    · exact q.elim
  · exact q.elim
def gLenSetT (p : Pv) : Tr Pv := match p with
  | .tup l => match asStrs l with
    | some xs => .ok (decide (xs.length ≤ 4000)) (.ret (.int (cnt xs xs.length : Nat)))
    | none => .fail
  | _ => .fail
def gLenSetL (p : Pv) : Tr Pv := match p with
  | .lst l => match asStrs l with
    | some xs => .ok (decide (xs.length ≤ 4000)) (.ret (.int ((setOf xs).length : Nat)))
    | none => .fail
  | _ => .fail
theorem xlensetT {x : XE} (h : De X e (dLenSet (rd x))) : De X e (rd (xMap gLenSetT x)) := h.weak fun env m Q ⟨pe, hs, q⟩ => by
  refine ⟨pe, hs, (Tr.wp_bind.mp q).mono fun p m1 q => ?_⟩
  unfold gLenSetT at q
  split at q
  · split at q
    · next l _ xs e =>
      obtain ⟨h1, h2⟩ := Tr.wp_ok q
      exact ⟨xs, by rw [Pv.D, asStrs_D e], of_decide_eq_true h1, h2⟩
    · exact q.elim
  · exact q.elim
theorem xlensetL {x : XE} (h : De X e (dLenSetL (rd x))) : De X e (rd (xMap gLenSetL x)) := h.weak fun env m Q ⟨pe, hs, q⟩ => by
  refine ⟨pe, hs, (Tr.wp_bind.mp q).mono fun p m1 q => ?_⟩
  unfold gLenSetL at q
  split at q
  · split at q
    · next l _ xs e =>
      obtain ⟨h1, h2⟩ := Tr.wp_ok q
      exact ⟨xs, setOf xs, by rw [Pv.D, asStrs_D e], of_decide_eq_true h1, (setOf_set xs).nodup, fun z => mem_setOf, h2⟩
    · exact q.elim
  · exact q.elim
def tupS (p : Pv) : Tr (List Str) := match p with
  | .tup l => match asStrs l with
    | some xs => .ret xs
    | none => .fail
  | _ => .fail
theorem tupS_wp {p : Pv} {m : Nat} {Q : List Str → Nat → Prop} (h : (tupS p).wp m Q) : ∃ xs, p.D = .tup (xs.map D.str) ∧ Q xs m := by
  unfold tupS at h
  split at h
  · split at h
    · next l _ xs e => exact ⟨xs, by rw [Pv.D, asStrs_D e], h⟩
    · exact h.elim
  · exact h.elim
def lkOk (xs ys : List Str) : Bool := decide (ys.length ≤ 4000) && (decide (xs.length / 4 ≤ cnt ys ys.length) || decide (ys = []))
def xLenDiff (x y : XE) : XE := fun pe => (x pe).bind fun p => (tupS p).bind fun xs => .ok (decide xs.Nodup && decide (xs.length < 16)) ((y pe).bind fun q => (tupS q).bind fun ys => .ok (lkOk xs ys) (.ret (.int ((xs.filter fun z => !ys.any (· == z)).length : Nat))))
theorem xlendiff {x y : XE} (h : De X e (dLenDiff (rd x) (rd y))) : De X e (rd (xLenDiff x y)) := h.weak fun env m Q ⟨pe, hs, q⟩ => by
  refine ⟨pe, hs, (Tr.wp_bind.mp q).mono fun p m1 q => ?_⟩
  obtain ⟨xs, e1, q⟩ := tupS_wp (Tr.wp_bind.mp q)
  obtain ⟨h1, q⟩ := Tr.wp_ok q
  rw [Bool.and_eq_true, decide_eq_true_eq, decide_eq_true_eq] at h1
  refine ⟨xs, e1, h1.1, h1.2, pe, hs, (Tr.wp_bind.mp q).mono fun r m2 q => ?_⟩
  obtain ⟨ys, e2, q⟩ := tupS_wp (Tr.wp_bind.mp q)
  obtain ⟨h2, q⟩ := Tr.wp_ok q
  unfold lkOk at h2
  simp only [Bool.and_eq_true, Bool.or_eq_true, decide_eq_true_eq] at h2
  exact ⟨ys, e2, h2.1, ⟨h1.2, h2.2⟩, q⟩
/-! texts -/
def asS (p : Pv) : Tr Str := match p with
  | .str z => .ret z
  | _ => .fail
theorem asS_wp {p : Pv} {m : Nat} {Q : Str → Nat → Prop} (h : (asS p).wp m Q) : ∃ z, p.D = .str z ∧ Q z m := by
  cases p with
  | str b => exact ⟨b, by rw [Pv.D], h⟩
  | _ => exact h.elim
def xPart (x y : XE) : XE := fun pe => (x pe).bind fun p => (asS p).bind fun a => (y pe).bind fun q => (asS q).bind fun b => .ok (!(b.length == 0) && sz a.length) (.ret (.tup [.str (Txt.partition a b).1, .str (Txt.partition a b).2.1, .str (Txt.partition a b).2.2]))
theorem xpart {x y : XE} (h : De X e (dPart (rd x) (rd y))) : De X e (rd (xPart x y)) := h.weak fun env m Q ⟨pe, hs, q⟩ => by
  refine ⟨pe, hs, (Tr.wp_bind.mp q).mono fun p m1 q => ?_⟩
  obtain ⟨a, e1, q⟩ := asS_wp (Tr.wp_bind.mp q)
  refine ⟨a, e1, pe, hs, (Tr.wp_bind.mp q).mono fun r m2 q => ?_⟩
  obtain ⟨b, e2, q⟩ := asS_wp (Tr.wp_bind.mp q)
  obtain ⟨h2, q⟩ := Tr.wp_ok q
  rw [Bool.and_eq_true] at h2
  exact ⟨b, e2, by simpa using h2.1, of_decide_eq_true h2.2, q⟩
def xSplit (x y : XE) : XE := fun pe => (x pe).bind fun p => (asS p).bind fun a => (y pe).bind fun q => (asS q).bind fun b => .ok (!(b.length == 0) && sz (a.length + 2)) (.ret (.lst ((Txt.split a b).map Pv.str)))
theorem xsplit {x y : XE} (h : De X e (dSplit (rd x) (rd y))) : De X e (rd (xSplit x y)) := h.weak fun env m Q ⟨pe, hs, q⟩ => by
  refine ⟨pe, hs, (Tr.wp_bind.mp q).mono fun p m1 q => ?_⟩
  obtain ⟨a, e1, q⟩ := asS_wp (Tr.wp_bind.mp q)
  refine ⟨a, e1, pe, hs, (Tr.wp_bind.mp q).mono fun r m2 q => ?_⟩
  obtain ⟨b, e2, q⟩ := asS_wp (Tr.wp_bind.mp q)
  obtain ⟨h2, q⟩ := Tr.wp_ok q
  rw [Bool.and_eq_true] at h2
  refine ⟨b, e2, by simpa using h2.1, of_decide_eq_true h2.2, ?_⟩
  have h3 : Q (Pv.lst ((Txt.split a b).map Pv.str)).D m2 := q
  rw [Pv.D, PDs_strs] at h3; exact h3
def seqS (p : Pv) : Tr (List Str) := match p with
  | .tup l => match asStrs l with
    | some xs => .ret xs
    | none => .fail
  | .lst l => match asStrs l with
    | some xs => .ret xs
    | none => .fail
  | _ => .fail
theorem seqS_wp {p : Pv} {m : Nat} {Q : List Str → Nat → Prop} (h : (seqS p).wp m Q) : ∃ xs, Sq p.D (xs.map D.str) ∧ Q xs m := by
  unfold seqS at h
  split at h
  · split at h
    · next l _ xs e => exact ⟨xs, .inl (by rw [Pv.D, asStrs_D e]), h⟩
    · exact h.elim
  · split at h
    · next l _ xs e => exact ⟨xs, .inr (by rw [Pv.D, asStrs_D e]), h⟩
    · exact h.elim
  · exact h.elim
def xJoin (x y : XE) : XE := fun pe => (x pe).bind fun p => (asS p).bind fun a => (y pe).bind fun q => (seqS q).bind fun ys => .ok (decide ((ys.map (·.length)).sum + ys.length * a.length ≤ 16777216)) (.ret (.str (Txt.join a ys)))
theorem xjoin {x y : XE} (h : De X e (fun env m Q => rd x env m fun x m1 => ∃ a, x = .str a ∧ rd y env m1 fun y m2 => ∃ ys : List Str, Sq y (ys.map D.str) ∧ (ys.map (·.length)).sum + ys.length * a.length ≤ 16777216 ∧ Q (.str (Txt.join a ys)) m2)) : De X e (rd (xJoin x y)) := h.weak fun env m Q ⟨pe, hs, q⟩ => by
  refine ⟨pe, hs, (Tr.wp_bind.mp q).mono fun p m1 q => ?_⟩
  obtain ⟨a, e1, q⟩ := asS_wp (Tr.wp_bind.mp q)
  refine ⟨a, e1, pe, hs, (Tr.wp_bind.mp q).mono fun r m2 q => ?_⟩
  obtain ⟨b, e2, q⟩ := seqS_wp (Tr.wp_bind.mp q)
  obtain ⟨h2, q⟩ := Tr.wp_ok q
  exact ⟨b, e2, of_decide_eq_true h2, q⟩
def gUpper (p : Pv) : Tr Pv := (asS p).bind fun z => .ok (decide (z.length ≤ 5592405)) (.ret (.str (Txt.upper z)))
theorem xupper {x : XE} (h : De X e (fun env m Q => rd x env m fun x m1 => ∃ z, x = .str z ∧ z.length ≤ 5592405 ∧ Q (.str (Txt.upper z)) m1)) : De X e (rd (xMap gUpper x)) := h.weak fun env m Q ⟨pe, hs, q⟩ => by
  refine ⟨pe, hs, (Tr.wp_bind.mp q).mono fun p m1 q => ?_⟩
  obtain ⟨a, e1, q⟩ := asS_wp (Tr.wp_bind.mp q)
  obtain ⟨h2, q⟩ := Tr.wp_ok q
  exact ⟨a, e1, of_decide_eq_true h2, q⟩
def fmtP (p : Pv) : Tr Str := match p with
  | .str y => .ok (sz y.length) (.ret y)
  | .int i => .ok (decide (i.natAbs.log2 < 1920)) (.ret (Str.ofString (toString i)))
  | _ => .fail
theorem fmtP_wp {p : Pv} {m : Nat} {Q : Str → Nat → Prop} (h : (fmtP p).wp m Q) : fmtD p.D fun y => Q y m := by
  cases p with
  | str z => obtain ⟨h1, h2⟩ := Tr.wp_ok h; rw [Pv.D]; exact ⟨of_decide_eq_true h1, h2⟩
  | int z => obtain ⟨h1, h2⟩ := Tr.wp_ok h; rw [Pv.D]; exact ⟨of_decide_eq_true h1, h2⟩
  | _ => exact h.elim
theorem fmtD_mono {d : D} {Q R : Str → Prop} (h : fmtD d Q) (g : ∀ y, Q y → R y) : fmtD d R := by
  unfold fmtD at h ⊢
  split at h
  · exact ⟨h.1, g _ h.2⟩
  · exact ⟨h.1, g _ h.2⟩
  · exact h.elim
def xFstr (x : XE) (z : Str) (y : XE) : XE := fun pe => (x pe).bind fun p => (fmtP p).bind fun a => .ok (sz (Str.empty ++ a).length && sz ((Str.empty ++ a) ++ z).length) ((y pe).bind fun q => (fmtP q).bind fun b => .ok (sz ((Str.empty ++ a) ++ z ++ b).length) (.ret (.str ((Str.empty ++ a) ++ z ++ b))))
theorem xfstr {x y : XE} {z : Str} (h : De X e (fun env m Q => rd x env m fun x m1 => fmtD x fun a => (Str.empty ++ a).length ≤ sizeLine ∧ ((Str.empty ++ a) ++ z).length ≤ sizeLine ∧ rd y env m1 fun x2 m2 => fmtD x2 fun y2 => ((Str.empty ++ a) ++ z ++ y2).length ≤ sizeLine ∧ Q (.str ((Str.empty ++ a) ++ z ++ y2)) m2)) : De X e (rd (xFstr x z y)) := h.weak fun env m Q ⟨pe, hs, q⟩ => by
  refine ⟨pe, hs, (Tr.wp_bind.mp q).mono fun p m1 q => fmtD_mono (fmtP_wp (Tr.wp_bind.mp q)) fun a q => ?_⟩
  obtain ⟨h2, q⟩ := Tr.wp_ok q
  rw [Bool.and_eq_true] at h2
  refine ⟨of_decide_eq_true h2.1, of_decide_eq_true h2.2, pe, hs, (Tr.wp_bind.mp q).mono fun p m1 q => fmtD_mono (fmtP_wp (Tr.wp_bind.mp q)) fun b q => ?_⟩
  obtain ⟨h3, q⟩ := Tr.wp_ok q
  exact ⟨of_decide_eq_true h3, q⟩
/-! isinstance -/
def gIsi (a : String) (p : Pv) : Tr Pv := .ok (noUrn p.D) (.ret (.bl (isD p.D a)))
def gIsi2 (a b : String) (p : Pv) : Tr Pv := .ok (noUrn p.D) (.ret (.bl (isD p.D a || isD p.D b)))
theorem xisi {x : XE} {t : String} (h : De X e (fun env m Q => rd x env m fun d m1 => noUrn d = true ∧ Q (.bl (isD d t)) m1)) : De X e (rd (xMap (gIsi t) x)) := h.weak fun env m Q ⟨pe, hs, q⟩ => ⟨pe, hs, (Tr.wp_bind.mp q).mono fun p m1 q => Tr.wp_ok q⟩
theorem xisi2 {x : XE} {t u : String} (h : De X e (fun env m Q => rd x env m fun d m1 => noUrn d = true ∧ Q (.bl (isD d t || isD d u)) m1)) : De X e (rd (xMap (gIsi2 t u) x)) := h.weak fun env m Q ⟨pe, hs, q⟩ => ⟨pe, hs, (Tr.wp_bind.mp q).mono fun p m1 q => Tr.wp_ok q⟩
/-- of own classes, by a table: which are of class j -/
def gIsA (t : Nat → Option Bool) (p : Pv) : Tr Pv := match p with
  | .obj n _ => match t n with
    | some b => .ret (.bl b)
    | none => .fail
  | p => .ok (noUrn p.D) (.ret (.bl false))
theorem xisA {x : XE} {K : PySem.W.Frag} {j : Nat} {t : Nat → Option Bool} (ht : ∀ n b, t n = some b → IsF K n j b) (h : De X e (dIsA K j (rd x))) : De X e (rd (xMap (gIsA t) x)) := h.weak fun env m Q ⟨pe, hs, q⟩ => by
  refine ⟨pe, hs, (Tr.wp_bind.mp q).mono fun p m1 q => ?_⟩
  unfold gIsA at q
  split at q
  · split at q
    · next n l _ b e => exact .inl ⟨n, PDs l, b, by rw [Pv.D], ht _ _ e, q⟩
    · exact q.elim
  · exact .inr (Tr.wp_ok q)
/-! objects -/
def gFld (c i : Nat) (p : Pv) : Tr Pv := match p with
  | .obj n l => if n = c then (match l[i]? with
    | some x => .ret x
    | none => .fail) else .fail
  | _ => .fail
theorem xfld {x : XE} {c i : Nat} (h : De X e (dFld c i (rd x))) : De X e (rd (xMap (gFld c i) x)) := h.weak fun env m Q ⟨pe, hs, q⟩ => by
  refine ⟨pe, hs, (Tr.wp_bind.mp q).mono fun p m1 z => ?_⟩
  unfold gFld at z
  split at z
  · next n l =>
    split at z
    · next hc =>
      subst hc
      split at z
      · next x hx => exact ⟨PDs l, x.D, by rw [Pv.D], by rw [PDs_map, List.getElem?_map, hx]; rfl, z⟩
      · exact z.elim
    · exact z.elim
  · exact z.elim
/-- o.m(a), o(a), a property: the object ahead of the arguments -/
def xMeth (n : Nat) (g : GA) (f : XE) (a : XA) : XE := fun pe => (f pe).bind fun p => match p with
  | .obj k l => if k = n then (a pe).bind fun ps => g (.obj k l :: ps) else .fail
  | _ => .fail
theorem xmeth {f : XE} {a : XA} {n : Nat} (hc : CallX sp g) (h : De X e (fun env m Q => rd f env m fun d m1 => ∃ l, d = .obj n l ∧ rdA a env m1 fun ds m2 => sp (.obj n l :: ds) m2 Q)) : De X e (rd (xMeth n g f a)) := h.weak fun env m Q ⟨pe, hs, q⟩ => by
  refine ⟨pe, hs, (Tr.wp_bind.mp q).mono fun p m1 z => ?_⟩
  cases p with
  | obj k l =>
    dsimp only at z
    split at z
    · next hk =>
      subst hk
      refine ⟨PDs l, by rw [Pv.D], pe, hs, (Tr.wp_bind.mp z).mono fun ps m2 z => ?_⟩
      have := hc _ _ _ z
      rw [PDs, Pv.D] at this; exact this
    · exact z.elim
  | _ => exact z.elim
theorem xmeth2 {f : XE} {a : XA} {n : Nat} (hc : CallX sp g) (h : De X e (dMeth n sp (rd f) (rdA a))) : De X e (rd (xMeth n g f a)) := xmeth hc (h.weak fun env m Q q => by
  obtain ⟨pe, hs, q⟩ := q
  refine ⟨pe, hs, q.mono fun p m1 q => ?_⟩
  obtain ⟨l, e, q⟩ := q
  refine ⟨l, e, ?_⟩
  rw [e]; exact q)
theorem xprop {f : XE} {n : Nat} (hc : CallX sp g) (h : De X e (fun env m Q => rd f env m fun d m1 => ∃ l, d = .obj n l ∧ sp [d] m1 Q)) : De X e (rd (xMeth n g f xNil)) := h.weak fun env m Q ⟨pe, hs, q⟩ => by
  refine ⟨pe, hs, (Tr.wp_bind.mp q).mono fun p m1 z => ?_⟩
  cases p with
  | obj k l =>
    dsimp only at z
    split at z
    · next hk =>
      subst hk
      refine ⟨PDs l, by rw [Pv.D], ?_⟩
      have := hc _ _ _ (show (g [Pv.obj k l]).wp m1 _ from z)
      rw [PDs, PDs] at this; exact this
    · exact z.elim
  | _ => exact z.elim
def xMethK (n k : Nat) (r : Pv → List Pv → List Pv) (g : GA) (f : XE) (a : XA) : XE := fun pe => (f pe).bind fun p => match p with
  | .obj j l => if j = n then (a pe).bind fun ps => .ok (ps.length == k) (g (r (.obj j l) ps)) else .fail
  | _ => .fail
theorem xmethK {f : XE} {a : XA} {n k : Nat} {r : Pv → List Pv → List Pv} {gD : D → List D → List D} (hr : ∀ (p : Pv) (ps : List Pv), ps.length = k → gD p.D (PDs ps) = PDs (r p ps)) (hc : CallX sp g)
    (h : De X e (fun env m Q => rd f env m fun d m1 => ∃ l, d = .obj n l ∧ rdA a env m1 fun ds m2 => ds.length = k ∧ sp (gD (.obj n l) ds) m2 Q)) : De X e (rd (xMethK n k r g f a)) := h.weak fun env m Q ⟨pe, hs, q⟩ => by
  refine ⟨pe, hs, (Tr.wp_bind.mp q).mono fun p m1 z => ?_⟩
  cases p with
  | obj j l =>
    dsimp only at z
    split at z
    · next hk =>
      subst hk
      refine ⟨PDs l, by rw [Pv.D], pe, hs, (Tr.wp_bind.mp z).mono fun ps m2 z => ?_⟩
      obtain ⟨h1, z⟩ := Tr.wp_ok z
      have h1 : ps.length = k := by simpa using h1
      refine ⟨by rw [PDs_len]; exact h1, ?_⟩
      have := hc _ _ _ z
      rw [← hr _ _ h1, Pv.D] at this; exact this
    · exact z.elim
  | _ => exact z.elim
abbrev GI := List Pv → Tr (List Pv)
def InX (t : DIn) (g : GI) : Prop := ∀ ps m Q, (g ps).wp m (fun fs m1 => Q (PDs fs) m1) → t (PDs ps) m Q
def xMake (c : Nat) (g : GI) (a : XA) : XE := fun pe => (a pe).bind fun ps => (g ps).bind fun fs => .ret (.obj c fs)
theorem xmake {c : Nat} {gi : GI} {a : XA} {si : DIn} (hc : InX si gi) (h : De X e (fun env m Q => rdA a env m fun ds m1 => si ds m1 fun fs m2 => Q (.obj c fs) m2)) : De X e (rd (xMake c gi a)) := h.weak fun env m Q ⟨pe, hs, q⟩ => by
  refine ⟨pe, hs, (Tr.wp_bind.mp q).mono fun ps m1 q => hc _ _ _ ((Tr.wp_bind.mp q).mono fun fs m2 q => ?_)⟩
  have h3 : Q (Pv.obj c fs).D m2 := q
  rw [Pv.D] at h3; exact h3
theorem xmake0 {c : Nat} {gi : GI} {si : DIn} (hc : InX si gi) (h : De X e (fun env m Q => si [.tup []] m fun fs m2 => Q (.obj c fs) m2)) : De X e (rd (xMake c gi (fun _ => .ret [.tup []]))) := h.weak fun env m Q ⟨pe, hs, q⟩ => by
  have q2 : (gi [.tup []]).wp m fun fs m2 => Q (.obj c (PDs fs)) m2 := by
    refine (Tr.wp_bind.mp (show ((gi [Pv.tup []]).bind fun fs => Tr.ret (Pv.obj c fs)).wp m (fun p m1 => Q p.D m1) from q)).mono fun fs m2 q => ?_
    have h3 : Q (Pv.obj c fs).D m2 := q
    rw [Pv.D] at h3; exact h3
  have := hc [Pv.tup []] m (fun ds m2 => Q (.obj c ds) m2) q2
  rw [PDs, PDs, Pv.D, PDs] at this; exact this
/-! things gone through -/
def xItL (x : XE) : XA := fun pe => (x pe).bind fun p => match p with
  | .lst l => .ret l
  | _ => .fail
def xItT (x : XE) : XA := fun pe => (x pe).bind fun p => match p with
  | .tup l => .ret l
  | _ => .fail
def signsP (z : Str) : List Pv := z.cps.toList.map fun c => Pv.str ⟨#[c]⟩
theorem signsP_D (z : Str) : PDs (signsP z) = signsD z := by unfold signsP signsD; rw [PDs_map, List.map_map]; rfl
def itP (p : Pv) : Tr (List Pv) := match p with
  | .lst l => .ret l
  | .tup l => .ret l
  | .str z => .ret (signsP z)
  | _ => .fail
def xItS (x : XE) : XA := fun pe => (x pe).bind fun p => (asS p).bind fun z => .ret (signsP z)
def xItV (i : Nat) : XA := fun pe => (xVar i pe).bind itP
def natsP (n : Nat) : List Pv := (List.range n).map fun (i : Nat) => Pv.int (i : Int)
theorem natsP_D (n : Nat) : PDs (natsP n) = nats n := by unfold natsP nats; rw [PDs_map, List.map_map]; rfl
def xItR (x : XE) : XA := fun pe => (x pe).bind fun p => match p with
  | .int (.ofNat n) => .ok (decide (n < 2 ^ 62)) (.ret (natsP n))
  | _ => .fail
def pairsP (a b : List Pv) : List Pv := (a.zip b).map fun p => .tup [p.1, p.2]
theorem pairsP_D : ∀ a b : List Pv, PDs (pairsP a b) = pairsD (PDs a) (PDs b)
  | [], _ => by simp [pairsP, pairsD, PDs]
  | _ :: _, [] => by simp [pairsP, pairsD, PDs]
  | x :: a, y :: b => by
    have ih := pairsP_D a b
    unfold pairsP pairsD at ih ⊢
    rw [List.zip_cons_cons, List.map_cons, PDs, ih, PDs, PDs, List.zip_cons_cons, List.map_cons, Pv.D, PDs, PDs, PDs]
def zipP (p q : Pv) : Tr (List Pv) := match p, q with
  | .lst a, .lst b => .ok (a.length == b.length) (.ret (pairsP a b))
  | .tup a, .tup b => .ok (a.length == b.length) (.ret (pairsP a b))
  | _, _ => .fail
def xItZ (x y : XE) : XA := fun pe => (x pe).bind fun p => (y pe).bind fun q => zipP p q
theorem xitL {x : XE} (h : Di X tg e (fun env m Q => rd x env m fun d m1 => ∃ l, d = .lst l ∧ Q l m1)) : Di X tg e (rdI (xItL x)) := h.weak fun env m Q ⟨pe, hs, q⟩ => by
  refine ⟨pe, hs, (Tr.wp_bind.mp q).mono fun p m1 q => ?_⟩
  cases p with
  | lst l => exact ⟨PDs l, by rw [Pv.D], q⟩
  | _ => exact q.elim
theorem xitT {x : XE} (h : Di X tg e (fun env m Q => rd x env m fun d m1 => ∃ l, d = .tup l ∧ Q l m1)) : Di X tg e (rdI (xItT x)) := h.weak fun env m Q ⟨pe, hs, q⟩ => by
  refine ⟨pe, hs, (Tr.wp_bind.mp q).mono fun p m1 q => ?_⟩
  cases p with
  | tup l => exact ⟨PDs l, by rw [Pv.D], q⟩
  | _ => exact q.elim
theorem xitS {x : XE} (h : Di X tg e (fun env m Q => rd x env m fun d m1 => ∃ z, d = .str z ∧ Q (signsD z) m1)) : Di X tg e (rdI (xItS x)) := h.weak fun env m Q ⟨pe, hs, q⟩ => by
  refine ⟨pe, hs, (Tr.wp_bind.mp q).mono fun p m1 q => ?_⟩
  obtain ⟨z, e1, q⟩ := asS_wp (Tr.wp_bind.mp q)
  refine ⟨z, e1, ?_⟩
  have h3 : Q (PDs (signsP z)) m1 := q
  rw [signsP_D] at h3; exact h3
theorem xitV {i : Nat} (h : Di X tg e (fun env m Q => ∃ d, env[i]? = some (some d) ∧ walkD d fun l => Q l m)) : Di X tg e (rdI (xItV i)) := h.weak fun env m Q ⟨pe, hs, q⟩ => by
  have q := Tr.wp_bind.mp q
  unfold xVar at q
  split at q
  · next p hp =>
    refine ⟨_, hs.2 i p hp, ?_⟩
    cases p with
    | lst l => rw [Pv.D]; exact q
    | tup l => rw [Pv.D]; exact q
    | str z =>
      have h3 : Q (PDs (signsP z)) m := q
      rw [signsP_D] at h3; rw [Pv.D]; exact h3
    | _ => exact q.elim
  · exact q.elim
theorem xitR {x : XE} (h : Di X tg e (fun env m Q => rd x env m fun d m1 => ∃ n : Nat, d = .int (n : Int) ∧ n < 2 ^ 62 ∧ Q (nats n) m1)) : Di X tg e (rdI (xItR x)) := h.weak fun env m Q ⟨pe, hs, q⟩ => by
  refine ⟨pe, hs, (Tr.wp_bind.mp q).mono fun p m1 q => ?_⟩
  cases p with
  | int i =>
    cases i with
    | ofNat n =>
      obtain ⟨h1, q⟩ := Tr.wp_ok q
      refine ⟨n, by rw [Pv.D]; rfl, of_decide_eq_true h1, ?_⟩
      have h3 : Q (PDs (natsP n)) m1 := q
      rw [natsP_D] at h3; exact h3
    | negSucc n => exact q.elim
  | _ => exact q.elim
theorem xitZ {x y : XE} (h : Di X tg e (fun env m Q => rd x env m fun x m1 => rd y env m1 fun y m2 => ∃ as bs, as.length = bs.length ∧ ((x = .lst as ∧ y = .lst bs) ∨ (x = .tup as ∧ y = .tup bs)) ∧ Q (pairsD as bs) m2)) : Di X tg e (rdI (xItZ x y)) := h.weak fun env m Q ⟨pe, hs, q⟩ => by
  refine ⟨pe, hs, (Tr.wp_bind.mp q).mono fun p m1 q => ⟨pe, hs, (Tr.wp_bind.mp q).mono fun r m2 q => ?_⟩⟩
  unfold zipP at q
  split at q
  · next u v =>
    obtain ⟨h1, q⟩ := Tr.wp_ok q
    have h3 : Q (PDs (pairsP _ _)) m2 := q
    rw [pairsP_D] at h3
    exact ⟨PDs _, PDs _, by rw [PDs_len, PDs_len]; simpa using h1, .inl ⟨by rw [Pv.D], by rw [Pv.D]⟩, h3⟩
  · next u v =>
    obtain ⟨h1, q⟩ := Tr.wp_ok q
    have h3 : Q (PDs (pairsP _ _)) m2 := q
    rw [pairsP_D] at h3
    exact ⟨PDs _, PDs _, by rw [PDs_len, PDs_len]; simpa using h1, .inr ⟨by rw [Pv.D], by rw [Pv.D]⟩, h3⟩
  · exact q.elim
/-! targets -/
/-- a name, or a tuple of names -/
def asgN {β : Type} (f : Pv → β) (i : Nat) (p : Pv) (l : List (Option β)) : Option (List (Option β)) := some (l.set i (some (f p)))
def setsN {β : Type} (f : Pv → β) : List Nat → List Pv → List (Option β) → Option (List (Option β))
  | [], [], l => some l
  | i :: is, p :: ps, l => setsN f is ps (l.set i (some (f p)))
  | _, _, _ => none
def asgT {β : Type} (f : Pv → β) (is : List Nat) (p : Pv) (l : List (Option β)) : Option (List (Option β)) := match p with
  | .tup ps => setsN f is ps l
  | _ => none
abbrev XG := Pv → PEnv → Option PEnv
def GX (dg : DG) (g : XG) : Prop := ∀ p pe pe2 env (Q : Env → Prop), Sub pe env → g p pe = some pe2 → (∀ env2, Sub pe2 env2 → Q env2) → dg p.D env Q
theorem gx_name {i : Nat} : GX (dgName i) (asgN (fun p => p) i) := fun p pe pe2 env Q hs e q => by
  cases e; exact q _ (hs.set i p)
theorem gx_tup2 {i j : Nat} : GX (dgTup2 i j) (asgT (fun p => p) [i, j]) := fun p pe pe2 env Q hs e q => by
  unfold asgT at e
  split at e
  · next ps =>
    match ps, e with
    | [a, b], e =>
      cases e
      exact ⟨a.D, b.D, by rw [Pv.D, PDs, PDs, PDs], q _ ((hs.set i a).set j b)⟩
    | [], e => cases e
    | [_], e => cases e
    | _ :: _ :: _ :: _, e => cases e
  · cases e
theorem gx_tup3 {i j k : Nat} : GX (dgTup3 i j k) (asgT (fun p => p) [i, j, k]) := fun p pe pe2 env Q hs e q => by
  unfold asgT at e
  split at e
  · next ps =>
    match ps, e with
    | [a, b, c], e =>
      cases e
      exact ⟨a.D, b.D, c.D, by rw [Pv.D, PDs, PDs, PDs, PDs], q _ (((hs.set i a).set j b).set k c)⟩
    | [], e => cases e
    | [_], e => cases e
    | [_, _], e => cases e
    | _ :: _ :: _ :: _ :: _, e => cases e
  · cases e
theorem gx_tup4 {i j k l : Nat} : GX (dgTup4 i j k l) (asgT (fun p => p) [i, j, k, l]) := fun p pe pe2 env Q hs e q => by
  unfold asgT at e
  split at e
  · next ps =>
    match ps, e with
    | [a, b, c, d], e =>
      cases e
      exact ⟨a.D, b.D, c.D, d.D, by rw [Pv.D, PDs, PDs, PDs, PDs, PDs], q _ ((((hs.set i a).set j b).set k c).set l d)⟩
    | [], e => cases e
    | [_], e => cases e
    | [_, _], e => cases e
    | [_, _, _], e => cases e
    | _ :: _ :: _ :: _ :: _ :: _, e => cases e
  · cases e
/-! comprehensions -/
def TOk (dt : DT) (t : XT) : Prop := ∀ env m Q, rdT t env m Q → dt env m Q
theorem tok_yes : TOk dYes xYes := fun env m Q ⟨pe, hs, q⟩ => q
theorem tok_t {t : XT} : TOk (rdT t) t := fun env m Q q => q
def xLcL (g : XG) (t : XT) (x : XE) (pe : PEnv) : List Pv → Tr (List Pv)
  | [] => .ret []
  | p :: ps => match g p pe with
    | some pe2 => (t pe2).bind fun b => if b = true then (x pe2).bind fun y => (xLcL g t x pe ps).bind fun ys => .ret (y :: ys) else xLcL g t x pe ps
    | none => .fail
def xLc (it : XA) (g : XG) (t : XT) (x : XE) (vs : List Nat) : XE := fun pe => (it pe).bind fun ps => .ok (sz ps.length) ((xLcL g t x (wipeP pe vs) ps).bind fun ys => .ret (.lst ys))
theorem lc_of {it : XA} {dg : DG} {g : XG} {dt : DT} {t : XT} {x : XE} {vs : List Nat} (hg : GX dg g) (ht : TOk dt t) {env m} {Q : D → Nat → Prop} (h : rd (xLc it g t x vs) env m Q) : dLc (rdI it) dg dt (rd x) vs env m Q := by
  obtain ⟨pe, hs, q⟩ := h
  refine ⟨pe, hs, (Tr.wp_bind.mp q).mono fun ps m1 q => ?_⟩
  obtain ⟨h1, q⟩ := Tr.wp_ok q
  refine ⟨by rw [PDs_len]; exact of_decide_eq_true h1, fun i acc mm => (xLcL g t x (wipeP pe vs) (ps.drop i)).wp mm fun ys m2 => Q (.lst (acc ++ PDs ys)) m2, ?_, fun i d acc mm hd hp => ?_, fun acc mm hp => ?_⟩
  · refine (Tr.wp_bind.mp q).mono fun ys m2 q => ?_
    have h3 : Q (Pv.lst ys).D m2 := q
    rw [Pv.D] at h3; exact h3
  · rw [PDs_map, List.getElem?_map] at hd
    cases e : ps[i]? with
    | none => rw [e] at hd; cases hd
    | some p =>
      rw [e] at hd
      cases hd
      obtain ⟨hi, e2⟩ := List.getElem?_eq_some_iff.mp e
      rw [List.drop_eq_getElem_cons hi, e2, xLcL] at hp
      split at hp
      · next pe2 eg =>
        refine hg _ _ _ _ _ (hs.wipe vs) eg fun env2 hs2 => ht _ _ _ ⟨pe2, hs2, (Tr.wp_bind.mp hp).mono fun b m2 q => ?_⟩
        cases b with
        | true =>
          rw [if_pos rfl] at q ⊢
          refine ⟨pe2, hs2, (Tr.wp_bind.mp q).mono fun y m3 q => ?_⟩
          dsimp only
          refine (Tr.wp_bind.mp q).mono fun ys m4 q => ?_
          have h3 : Q (.lst (acc ++ PDs (y :: ys))) m4 := q
          rw [PDs] at h3
          rw [List.append_assoc]; exact h3
        | false =>
          rw [if_neg Bool.false_ne_true] at q ⊢
          exact q
      · exact hp.elim
  · dsimp only at hp
    rw [PDs_len, List.drop_length] at hp
    have h3 : Q (.lst (acc ++ PDs [])) mm := hp
    rw [PDs, List.append_nil] at h3; exact h3
theorem xlc {it : XA} {dg : DG} {g : XG} {dt : DT} {t : XT} {x : XE} {vs : List Nat} (hg : GX dg g) (ht : TOk dt t) (h : De X e (dLc (rdI it) dg dt (rd x) vs)) : De X e (rd (xLc it g t x vs)) := h.weak fun env m Q q => lc_of hg ht q
end
end TC
/-! TX4: statements, with lists of a def's own that it fills -/
namespace TC
open PySem PySem.Spec PyProof.Rows L2
variable [Cl]
inductive XV where
  | p (x : Pv) | own (l : List Pv)
abbrev XEnv := List (Option XV)
def SlR (o : Option D) (v : Option XV) : Prop := match v with
  | none => o = none
  | some (.p x) => o = some x.D
  | some (.own l) => ∃ a, o = some (.cell a (PDs l))
def RlE (env : Env) (xe : XEnv) : Prop := env.length = xe.length ∧ ∀ (i : Nat) (o : Option D) (v : Option XV), env[i]? = some o → xe[i]? = some v → SlR o v
theorem RlE.get {env : Env} {xe : XEnv} (h : RlE env xe) {i : Nat} {v : Option XV} (e : xe[i]? = some v) : ∃ o, env[i]? = some o ∧ SlR o v := by
  have hl : i < env.length := by rw [h.1]; exact (List.getElem?_eq_some_iff.mp e).1
  exact ⟨env[i], by simp [hl], h.2 i _ v (by simp [hl]) e⟩
theorem RlE.set {env : Env} {xe : XEnv} (h : RlE env xe) (i : Nat) {o : Option D} {v : Option XV} (s : SlR o v) : RlE (env.set i o) (xe.set i v) := by
  refine ⟨by simp [h.1], fun j o2 v2 e1 e2 => ?_⟩
  by_cases hij : i = j
  · subst hij
    have hl : i < env.length := by
      have := (List.getElem?_eq_some_iff.mp e1).1
      simpa using this
    rw [List.getElem?_set_self hl] at e1
    rw [List.getElem?_set_self (by rw [← h.1]; exact hl)] at e2
    cases e1; cases e2; exact s
  · rw [List.getElem?_set_ne hij] at e1 e2
    exact h.2 j o2 v2 e1 e2
def cellOf : Option D → Option Addr
  | some (.cell p _) => some p
  | _ => none
theorem cellsE_eq : ∀ env : Env, cellsE env = env.filterMap cellOf
  | [] => rfl
  | none :: r => cellsE_eq r
  | some d :: r => by
    have ih := cellsE_eq r
    cases d <;> first
      | exact ih
      | (show _ :: cellsE r = _ :: r.filterMap cellOf; rw [ih])
theorem set_split {α : Type} : ∀ {l : List α} {i : Nat} {x y : α}, l[i]? = some x → ∃ a b, l = a ++ x :: b ∧ l.set i y = a ++ y :: b
  | [], i, x, y, h => by simp at h
  | z :: l, 0, x, y, h => by simp at h; subst h; exact ⟨[], l, rfl, rfl⟩
  | z :: l, i + 1, x, y, h => by
    obtain ⟨a, b, e1, e2⟩ := set_split (l := l) (i := i) (y := y) (by simpa using h)
    exact ⟨z :: a, b, by rw [e1]; rfl, by rw [List.set_cons_succ, e2]; rfl⟩
theorem set_out {α : Type} {l : List α} {i : Nat} {y : α} (h : l[i]? = none) : l.set i y = l := by
  apply List.set_eq_of_length_le
  simpa using h
/-- the cells' addresses are new and all different -/
structure Rl (nw : Addr → Prop) (env : Env) (xe : XEnv) : Prop where
  e : RlE env xe
  nd : (cellsE env).Nodup
  new : ∀ a ∈ cellsE env, nw a
theorem slot_ok {env : Env} {xe : XEnv} (h : RlE env xe) : relNB env = true := by
  have aux : ∀ (env : Env), (∀ o ∈ env, ∀ d, o = some d → TC.noc d = true ∨ ∃ a l, d = .cell a l ∧ nocL l = true) → relNB env = true := by
    intro env
    induction env with
    | nil => intro _; rfl
    | cons o r ih =>
      intro h
      have hr := ih fun o ho => h o (List.mem_cons_of_mem _ ho)
      cases o with
      | none => exact hr
      | some d =>
        rcases h _ (List.mem_cons_self ..) d rfl with n | ⟨a, l, rfl, n⟩
        · cases d <;> first
            | (exact absurd n Bool.false_ne_true)
            | (show (_ && relNB r) = true; rw [hr, Bool.and_true]; exact n)
        · show (nocL l && relNB r) = true
          rw [n, hr]; rfl
  refine aux env fun o ho d e => ?_
  obtain ⟨i, hi⟩ := List.mem_iff_getElem?.mp ho
  have hl : i < xe.length := by rw [← h.1]; exact (List.getElem?_eq_some_iff.mp hi).1
  have s := h.2 i o xe[i] hi (by simp [hl])
  cases hv : xe[i] with
  | none => rw [hv] at s; subst e; cases s
  | some v =>
    rw [hv] at s
    cases v with
    | p x => have s2 : o = some x.D := s; rw [e] at s2; cases s2; exact .inl x.noc
    | own l => obtain ⟨a, s2⟩ := s; rw [e] at s2; cases s2; exact .inr ⟨a, _, rfl, PDs_noc l⟩
theorem cells_plain {env : Env} {i : Nat} {d : Option D} (hd : cellOf d = none) : ((cellsE env).Nodup → (cellsE (env.set i d)).Nodup) ∧ ∀ a, a ∈ cellsE (env.set i d) → a ∈ cellsE env := by
  cases h : env[i]? with
  | none => rw [set_out h]; exact ⟨id, fun _ h => h⟩
  | some o =>
    obtain ⟨a, b, e1, e2⟩ := set_split (y := d) h
    rw [e2, e1, cellsE_eq, cellsE_eq, List.filterMap_append, List.filterMap_append, List.filterMap_cons, List.filterMap_cons, hd]
    cases cellOf o with
    | none => exact ⟨id, fun _ h => h⟩
    | some q =>
      refine ⟨fun n => ?_, fun x hx => ?_⟩
      · exact n.sublist (List.Sublist.append (List.Sublist.refl _) (List.sublist_cons_self _ _))
      · rcases List.mem_append.mp hx with h | h
        · exact List.mem_append.mpr (.inl h)
        · exact List.mem_append.mpr (.inr (List.mem_cons_of_mem _ h))
theorem cellOf_D (x : Pv) : cellOf (some x.D) = none := by cases x <;> rw [Pv.D] <;> rfl
theorem Rl.plain {nw : Addr → Prop} {env : Env} {xe : XEnv} (h : Rl nw env xe) (i : Nat) (x : Pv) : Rl nw (env.set i (some x.D)) (xe.set i (some (.p x))) := by
  obtain ⟨c1, c2⟩ := cells_plain (env := env) (i := i) (cellOf_D x)
  exact ⟨h.e.set i rfl, c1 h.nd, fun a ha => h.new a (c2 a ha)⟩
theorem Rl.fresh {nw : Addr → Prop} {env : Env} {xe : XEnv} (h : Rl nw env xe) (i : Nat) {p : Addr} (l : List Pv) (hp : nw p) (hn : p ∉ cellsE env) : Rl nw (env.set i (some (.cell p (PDs l)))) (xe.set i (some (.own l))) := by
  suffices hh : (cellsE (env.set i (some (.cell p (PDs l))))).Nodup ∧ ∀ x ∈ cellsE (env.set i (some (.cell p (PDs l)))), nw x from ⟨h.e.set i ⟨p, rfl⟩, hh.1, hh.2⟩
  cases hi : env[i]? with
  | none => rw [set_out hi]; exact ⟨h.nd, h.new⟩
  | some o =>
    obtain ⟨a, b, e1, e2⟩ := set_split (y := (some (.cell p (PDs l)) : Option D)) hi
    have nd := h.nd
    have nv := h.new
    rw [e1, cellsE_eq, List.filterMap_append, List.filterMap_cons] at nd nv hn
    rw [e2, cellsE_eq, List.filterMap_append, List.filterMap_cons]
    show (a.filterMap cellOf ++ p :: b.filterMap cellOf).Nodup ∧ ∀ x ∈ a.filterMap cellOf ++ p :: b.filterMap cellOf, nw x
    have sub : (a.filterMap cellOf ++ b.filterMap cellOf).Nodup ∧ (∀ x ∈ a.filterMap cellOf ++ b.filterMap cellOf, nw x) ∧ p ∉ a.filterMap cellOf ++ b.filterMap cellOf := by
      cases ho : cellOf o with
      | none => rw [ho] at nd nv hn; exact ⟨nd, nv, hn⟩
      | some q =>
        rw [ho] at nd nv hn
        have hsub : List.Sublist (a.filterMap cellOf ++ b.filterMap cellOf) (a.filterMap cellOf ++ q :: b.filterMap cellOf) := List.Sublist.append (List.Sublist.refl _) (List.sublist_cons_self _ _)
        exact ⟨nd.sublist hsub, fun x hx => nv x (hsub.subset hx), fun hx => hn (hsub.subset hx)⟩
    obtain ⟨s1, s2, s3⟩ := sub
    refine ⟨?_, fun x hx => ?_⟩
    · rw [List.nodup_append] at s1 ⊢
      refine ⟨s1.1, List.nodup_cons.mpr ⟨fun z => s3 (List.mem_append.mpr (.inr z)), s1.2.1⟩, fun x hx y hy => ?_⟩
      rcases List.mem_cons.mp hy with rfl | hy
      · exact fun z => s3 (List.mem_append.mpr (.inl (z ▸ hx)))
      · exact s1.2.2 x hx y hy
    · rcases List.mem_append.mp hx with z | z
      · exact s2 x (List.mem_append.mpr (.inl z))
      · rcases List.mem_cons.mp z with rfl | z
        · exact hp
        · exact s2 x (List.mem_append.mpr (.inr z))
/-- the cell in slot i holds another list -/
theorem Rl.fill {nw : Addr → Prop} {env : Env} {xe : XEnv} (h : Rl nw env xe) {i : Nat} {p : Addr} {l0 : List D} (e : env[i]? = some (some (.cell p l0))) (l : List Pv) : Rl nw (env.set i (some (.cell p (PDs l)))) (xe.set i (some (.own l))) := by
  refine ⟨h.e.set i ⟨p, rfl⟩, ?_, ?_⟩
  all_goals
    obtain ⟨a, b, e1, e2⟩ := set_split (y := (some (.cell p (PDs l)) : Option D)) e
    have nd := h.nd
    have nv := h.new
    rw [e1, cellsE_eq, List.filterMap_append, List.filterMap_cons] at nd nv
    rw [e2, cellsE_eq, List.filterMap_append, List.filterMap_cons]
  · exact nd
  · exact nv
theorem Rl.sep {nw : Addr → Prop} {env : Env} {xe : XEnv} (h : Rl nw env xe) {i : Nat} {p : Addr} {l0 : List D} (e : env[i]? = some (some (.cell p l0))) : SepL p (env.set i none) := by
  have hr : relNB (env.set i none) = true := slot_ok (xe := xe.set i none) (h.e.set i rfl)
  refine sep_of hr fun q hq hqp => ?_
  subst hqp
  obtain ⟨a, b, e1, e2⟩ := set_split (y := (none : Option D)) e
  have nd := h.nd
  rw [e1, cellsE_eq, List.filterMap_append, List.filterMap_cons] at nd
  rw [e2, cellsE_eq, List.filterMap_append, List.filterMap_cons] at hq
  have nd2 : (a.filterMap cellOf ++ q :: b.filterMap cellOf).Nodup := nd
  have hq2 : q ∈ a.filterMap cellOf ++ b.filterMap cellOf := hq
  rw [List.nodup_append] at nd2
  rcases List.mem_append.mp hq2 with z | z
  · exact nd2.2.2 q z q (List.mem_cons_self ..) rfl
  · exact (List.nodup_cons.mp nd2.2.1).1 z
/-! ### looks -/
def visS : Option XV → Option Pv
  | some (.p x) => some x
  | _ => none
def allS : Option XV → Option Pv
  | some (.p x) => some x
  | some (.own l) => some (.lst l)
  | none => none
def vis (xe : XEnv) : PEnv := xe.map visS
def all (xe : XEnv) : PEnv := xe.map allS
theorem sub_vis {env : Env} {xe : XEnv} (h : RlE env xe) : Sub (vis xe) env := by
  refine ⟨by unfold vis; rw [List.length_map, h.1], fun i p e => ?_⟩
  unfold vis at e
  rw [List.getElem?_map] at e
  cases hx : xe[i]? with
  | none => rw [hx] at e; cases e
  | some v =>
    rw [hx] at e
    obtain ⟨o, e1, s⟩ := h.get hx
    match v, e, s with
    | some (.p x), e, s =>
      have e2 : some x = some p := by simpa [visS] using e
      cases e2
      rw [e1]; exact congrArg some s
    | some (.own l), e, s => simp [visS] at e
    | none, e, s => simp [visS] at e
theorem sub_all {env : Env} {xe : XEnv} (h : RlE env xe) : Sub (all xe) (relE env) := by
  refine ⟨by unfold all relE; rw [List.length_map, List.length_map, h.1], fun i p e => ?_⟩
  unfold all at e
  rw [List.getElem?_map] at e
  unfold relE
  rw [List.getElem?_map]
  cases hx : xe[i]? with
  | none => rw [hx] at e; cases e
  | some v =>
    rw [hx] at e
    obtain ⟨o, e1, s⟩ := h.get hx
    rw [e1]
    match v, e, s with
    | some (.p x), e, s =>
      have e2 : some x = some p := by simpa [allS] using e
      cases e2
      have s2 : o = some p.D := s
      subst s2
      show some (some (rel p.D)) = _
      rw [rel_noc p.noc]
    | some (.own l), e, s =>
      have e2 : some (Pv.lst l) = some p := by simpa [allS] using e
      cases e2
      obtain ⟨a, s2⟩ := s
      subst s2
      show some (some (D.lst (PDs l))) = _
      rw [Pv.D]
    | none, e, s => simp [allS] at e
abbrev XX := XEnv → Tr Pv
abbrev XXT := XEnv → Tr Bool
abbrev XXA := XEnv → Tr (List Pv)
def rdX (x : XX) : DE := fun env m Q => ∃ xe, RlE env xe ∧ (x xe).wp m fun p m1 => Q p.D m1
def rdXT (x : XXT) : DT := fun env m Q => ∃ xe, RlE env xe ∧ (x xe).wp m fun b m1 => Q b m1
def rdXA (x : XXA) : DA := fun env m Q => ∃ xe, RlE env xe ∧ (x xe).wp m fun ps m1 => Q (PDs ps) m1
def rdXI (x : XXA) : DI := fun env m Q => ∃ xe, RlE env xe ∧ (x xe).wp m fun ps m1 => Q (PDs ps) m1
def pl {α : Type} (x : PEnv → Tr α) : XEnv → Tr α := fun xe => x (vis xe)
def rl (x : XE) : XX := fun xe => (x (all xe)).bind fun p => .ok (nolst p.D) (.ret p)
def rlT (x : XT) : XXT := fun xe => x (all xe)
def rlI (x : XE) : XXA := fun xe => (rl x xe).bind fun p => match p with
  | .tup l => .ret l
  | _ => .fail
section
variable {X : Cx} {e : Expr} {es : List Expr} {tg : Expr} {st : Stmt} {sts rest : List Stmt}
theorem xpl {x : XE} (h : De X e (rd x)) : De X e (rdX (pl x)) := h.weak fun env m Q ⟨xe, hr, q⟩ => ⟨vis xe, sub_vis hr, q⟩
theorem xplT {x : XT} (h : Dt X e (rdT x)) : Dt X e (rdXT (pl x)) := h.weak fun env m Q ⟨xe, hr, q⟩ => ⟨vis xe, sub_vis hr, q⟩
theorem xplA {x : XA} (h : Da X es (rdA x)) : Da X es (rdXA (pl x)) := h.weak fun env m Q ⟨xe, hr, q⟩ => ⟨vis xe, sub_vis hr, q⟩
theorem xplI {x : XA} (h : Di X tg e (rdI x)) : Di X tg e (rdXI (pl x)) := h.weak fun env m Q ⟨xe, hr, q⟩ => ⟨vis xe, sub_vis hr, q⟩
theorem xrl {x : XE} (h : De X e (dRel (rd x))) : De X e (rdX (rl x)) := h.weak fun env m Q ⟨xe, hr, q⟩ => ⟨slot_ok hr, all xe, sub_all hr, (Tr.wp_bind.mp q).mono fun p m1 q => Tr.wp_ok q⟩
theorem xrlT {x : XT} (h : Dt X e (dtRel (rdT x))) : Dt X e (rdXT (rlT x)) := h.weak fun env m Q ⟨xe, hr, q⟩ => ⟨slot_ok hr, all xe, sub_all hr, q⟩
theorem xrlI {x : XE} (h : Di X tg e (fun env m Q => rdX (rl x) env m fun d m1 => ∃ l, d = .tup l ∧ Q l m1)) : Di X tg e (rdXI (rlI x)) := h.weak fun env m Q ⟨xe, hr, q⟩ => by
  refine ⟨xe, hr, (Tr.wp_bind.mp q).mono fun p m1 q => ?_⟩
  cases p with
  | tup l => exact ⟨PDs l, by rw [Pv.D], q⟩
  | _ => exact q.elim
def xNilX : XXA := fun _ => .ret []
def xConsX (a : XX) (r : XXA) : XXA := fun xe => (a xe).bind fun p => (r xe).bind fun ps => .ret (p :: ps)
theorem xnilX (h : Da X es dNil) : Da X es (rdXA xNilX) := h.weak fun env m Q ⟨pe, hs, q⟩ => q
theorem xconsX {a : XX} {r : XXA} (h : Da X es (dCons (rdX a) (rdXA r))) : Da X es (rdXA (xConsX a r)) := h.weak fun env m Q ⟨pe, hs, q⟩ =>
  ⟨pe, hs, (Tr.wp_bind.mp q).mono fun p m1 q => ⟨pe, hs, (Tr.wp_bind.mp q).mono fun ps m2 q => q⟩⟩
/-! ### statements -/
inductive Out where
  | nx (xe : XEnv) | rt (p : Pv)
abbrev XS := XEnv → Tr Out
def outOk (nw : Addr → Prop) (nx : Env → Nat → Prop) (rt : D → Nat → Prop) (o : Out) (m : Nat) : Prop := match o with
  | .nx xe => ∀ env, Rl nw env xe → nx env m
  | .rt p => rt p.D m
def rdM (x : XS) : DM := fun nw nx rt env m => ∃ xe, Rl nw env xe ∧ (x xe).wp m (outOk nw nx rt)
theorem Dm1.weak {t t' : DM} (h : Dm1 X st t) (hw : ∀ nw nx rt env m, t' nw nx rt env m → t nw nx rt env m) : Dm1 X st t' := ⟨fun w0 H0 w nw σ H env m nx rt Dn W f sl hu q c r => h.run w0 H0 w nw σ H env m nx rt Dn W f sl hu (hw _ _ _ _ _ q) c r⟩
theorem Dm.weak {t t' : DM} (h : Dm X sts t) (hw : ∀ nw nx rt env m, t' nw nx rt env m → t nw nx rt env m) : Dm X sts t' := ⟨fun w0 H0 w nw σ H env m nx rt Dn W f sl hu q c r => h.run w0 H0 w nw σ H env m nx rt Dn W f sl hu (hw _ _ _ _ _ q) c r⟩
theorem DmT.weak {t t' : DM} (h : DmT X sts t) (hw : ∀ nw nx rt env m, t' nw nx rt env m → t nw nx rt env m) : DmT X sts t' := ⟨fun w0 H0 w nw σ H env m nx rt Dn W f sl hu q c r => h.run w0 H0 w nw σ H env m nx rt Dn W f sl hu (hw _ _ _ _ _ q) c r⟩
def xsNext : XS := fun xe => .ret (.nx xe)
def xsSeq (a b : XS) : XS := fun xe => (a xe).bind fun o => match o with
  | .nx xe2 => b xe2
  | .rt p => .ret (.rt p)
theorem seq_out {nw : Addr → Prop} {nx : Env → Nat → Prop} {rt : D → Nat → Prop} {b : XS} {o : Out} {m : Nat} (q : (match o with | .nx xe2 => b xe2 | .rt p => .ret (.rt p) : Tr Out).wp m (outOk nw nx rt)) : outOk nw (fun env1 m1 => rdM b nw nx rt env1 m1) rt o m := by
  cases o with
  | nx xe => exact fun env hr => ⟨xe, hr, q⟩
  | rt p => exact q
theorem xsnil (h : Dm X sts dmNext) : Dm X sts (rdM xsNext) := h.weak fun nw nx rt env m ⟨xe, hr, q⟩ => q env hr
theorem xscons {a b : XS} (h : Dm X sts (dmSeq (rdM a) (rdM b))) : Dm X sts (rdM (xsSeq a b)) := h.weak fun nw nx rt env m ⟨xe, hr, q⟩ => ⟨xe, hr, (Tr.wp_bind.mp q).mono fun o m1 q => seq_out q⟩
theorem xsconsT {a b : XS} (h : DmT X sts (dmSeq (rdM a) (rdM b))) : DmT X sts (rdM (xsSeq a b)) := h.weak fun nw nx rt env m ⟨xe, hr, q⟩ => ⟨xe, hr, (Tr.wp_bind.mp q).mono fun o m1 q => seq_out q⟩
def xsSet (i : Nat) (x : XX) : XS := fun xe => (x xe).bind fun p => .ret (.nx (xe.set i (some (.p p))))
theorem xsset {i : Nat} {x : XX} (h : Dm1 X st (dmL (dSet i (rdX x)))) : Dm1 X st (rdM (xsSet i x)) := h.weak fun nw nx rt env m ⟨xe, hr, q⟩ =>
  ⟨xe, hr.e, (Tr.wp_bind.mp q).mono fun p m1 q => q _ (hr.plain i p)⟩
def xsSetLc (i : Nat) (x : XE) : XS := xsSet i (pl x)
theorem xssetlc {i : Nat} {it : XA} {dg : DG} {g : XG} {dt : DT} {t : XT} {x : XE} {vs : List Nat} (hg : GX dg g) (ht : TOk dt t) (h : Dm1 X st (dmL (dSet i (dLc (rdI it) dg dt (rd x) vs)))) : Dm1 X st (rdM (xsSet i (pl (xLc it g t x vs)))) := h.weak fun nw nx rt env m ⟨xe, hr, q⟩ =>
  lc_of (Q := fun d m1 => nx (env.set i (some d)) m1) hg ht ⟨vis xe, sub_vis hr.e, (Tr.wp_bind.mp q).mono fun p m1 q => q _ (hr.plain i p)⟩
def xsPar (is : List Nat) (a : XXA) : XS := fun xe => (a xe).bind fun ps => match setsN XV.p is ps xe with
  | some xe2 => .ret (.nx xe2)
  | none => .fail
theorem xspar2 {i j : Nat} {a : XXA} (h : Dm1 X st (dmL (dPar i j (rdXA a)))) : Dm1 X st (rdM (xsPar [i, j] a)) := h.weak fun nw nx rt env m ⟨xe, hr, q⟩ => by
  refine ⟨xe, hr.e, (Tr.wp_bind.mp q).mono fun ps m1 q => ?_⟩
  match ps, q with
  | [a, b], q => exact ⟨a.D, b.D, by rw [PDs, PDs, PDs], q _ ((hr.plain i a).plain j b)⟩
  | [], q => exact q.elim
  | [_], q => exact q.elim
  | _ :: _ :: _ :: _, q => exact q.elim
theorem xspar3 {i j k : Nat} {a : XXA} (h : Dm1 X st (dmL (dPar3 i j k (rdXA a)))) : Dm1 X st (rdM (xsPar [i, j, k] a)) := h.weak fun nw nx rt env m ⟨xe, hr, q⟩ => by
  refine ⟨xe, hr.e, (Tr.wp_bind.mp q).mono fun ps m1 q => ?_⟩
  match ps, q with
  | [a, b, c], q => exact ⟨a.D, b.D, c.D, by rw [PDs, PDs, PDs, PDs], q _ (((hr.plain i a).plain j b).plain k c)⟩
  | [], q => exact q.elim
  | [_], q => exact q.elim
  | [_, _], q => exact q.elim
  | _ :: _ :: _ :: _ :: _, q => exact q.elim
abbrev XGM := Pv → XEnv → Option XEnv
def GM (dg : DG) (g : XGM) : Prop := ∀ nw p env xe xe2 (Q : Env → Prop), Rl nw env xe → g p xe = some xe2 → (∀ env2, Rl nw env2 xe2 → Q env2) → dg p.D env Q
theorem gm_name {i : Nat} : GM (dgName i) (asgN XV.p i) := fun nw p env xe xe2 Q hr e q => by
  cases e; exact q _ (hr.plain i p)
theorem gm_tup2 {i j : Nat} : GM (dgTup2 i j) (asgT XV.p [i, j]) := fun nw p env xe xe2 Q hr e q => by
  unfold asgT at e
  split at e
  · next ps =>
    match ps, e with
    | [a, b], e =>
      cases e
      exact ⟨a.D, b.D, by rw [Pv.D, PDs, PDs, PDs], q _ ((hr.plain i a).plain j b)⟩
    | [], e => cases e
    | [_], e => cases e
    | _ :: _ :: _ :: _, e => cases e
  · cases e
theorem gm_tup3 {i j k : Nat} : GM (dgTup3 i j k) (asgT XV.p [i, j, k]) := fun nw p env xe xe2 Q hr e q => by
  unfold asgT at e
  split at e
  · next ps =>
    match ps, e with
    | [a, b, c], e =>
      cases e
      exact ⟨a.D, b.D, c.D, by rw [Pv.D, PDs, PDs, PDs, PDs], q _ (((hr.plain i a).plain j b).plain k c)⟩
    | [], e => cases e
    | [_], e => cases e
    | [_, _], e => cases e
    | _ :: _ :: _ :: _ :: _, e => cases e
  · cases e
theorem gm_tup4 {i j k l : Nat} : GM (dgTup4 i j k l) (asgT XV.p [i, j, k, l]) := fun nw p env xe xe2 Q hr e q => by
  unfold asgT at e
  split at e
  · next ps =>
    match ps, e with
    | [a, b, c, d], e =>
      cases e
      exact ⟨a.D, b.D, c.D, d.D, by rw [Pv.D, PDs, PDs, PDs, PDs, PDs], q _ ((((hr.plain i a).plain j b).plain k c).plain l d)⟩
    | [], e => cases e
    | [_], e => cases e
    | [_, _], e => cases e
    | [_, _, _], e => cases e
    | _ :: _ :: _ :: _ :: _ :: _, e => cases e
  · cases e
def xsAsg (x : XX) (g : XGM) : XS := fun xe => (x xe).bind fun p => match g p xe with
  | some xe2 => .ret (.nx xe2)
  | none => .fail
theorem xsasg {x : XX} {dg : DG} {g : XGM} (hg : GM dg g) (h : Dm1 X st (dmL (fun nx _ env m => rdX x env m fun d m1 => dg d env fun env1 => nx env1 m1))) : Dm1 X st (rdM (xsAsg x g)) := h.weak fun nw nx rt env m ⟨xe, hr, q⟩ => by
  refine ⟨xe, hr.e, (Tr.wp_bind.mp q).mono fun p m1 q => ?_⟩
  split at q
  · next xe2 e => exact hg _ _ _ _ _ _ hr e fun env2 hr2 => q env2 hr2
  · exact q.elim
def xsRet (x : XX) : XS := fun xe => (x xe).bind fun p => .ret (.rt p)
theorem xsret {x : XX} (h : Dm1 X st (dmL (dRet (rdX x)))) : Dm1 X st (rdM (xsRet x)) := h.weak fun nw nx rt env m ⟨xe, hr, q⟩ => ⟨xe, hr.e, (Tr.wp_bind.mp q).mono fun p m1 q => ⟨p.noc, q⟩⟩
def xsRetN : XS := fun _ => .ret (.rt .non)
theorem xsretn (h : Dm1 X st (dmL dRetN)) : Dm1 X st (rdM xsRetN) := h.weak fun nw nx rt env m ⟨xe, hr, q⟩ => ⟨rfl, q⟩
def xsDrop (x : XX) : XS := fun xe => (x xe).bind fun _ => .ret (.nx xe)
theorem xsdrop {x : XX} (h : Dm1 X st (dmL (dDrop (rdX x)))) : Dm1 X st (rdM (xsDrop x)) := h.weak fun nw nx rt env m ⟨xe, hr, q⟩ => ⟨xe, hr.e, (Tr.wp_bind.mp q).mono fun p m1 q => q env hr⟩
theorem xsdoc (h : Dm1 X st (dmL dNext)) : Dm1 X st (rdM xsNext) := h.weak fun nw nx rt env m ⟨xe, hr, q⟩ => q env hr
def xsFail : XS := fun _ => .fail
theorem xsnever (h : Dm1 X st (dmL dNever)) : Dm1 X st (rdM xsFail) := h.weak fun nw nx rt env m ⟨xe, hr, q⟩ => q
def xsIf (c : XXT) (a b : XS) : XS := fun xe => (c xe).bind fun k => if k = true then a xe else b xe
theorem xsif {c : XXT} {a b : XS} (h : Dm1 X st (dmIf (rdXT c) (rdM a) (rdM b))) : Dm1 X st (rdM (xsIf c a b)) := h.weak fun nw nx rt env m ⟨xe, hr, q⟩ => by
  refine ⟨xe, hr.e, (Tr.wp_bind.mp q).mono fun k m1 q => ?_⟩
  cases k with
  | true => exact ⟨xe, hr, q⟩
  | false => exact ⟨xe, hr, q⟩
def xsForL (g : XGM) (body : XS) : List Pv → XS
  | [], xe => .ret (.nx xe)
  | p :: ps, xe => match g p xe with
    | some xe2 => (body xe2).bind fun o => match o with
      | .nx xe3 => xsForL g body ps xe3
      | .rt p => .ret (.rt p)
    | none => .fail
def xsFor (it : XXA) (g : XGM) (body : XS) : XS := fun xe => (it xe).bind fun ps => xsForL g body ps xe
theorem xsfor {it : XXA} {dg : DG} {g : XGM} {body : XS} (hg : GM dg g) (h : Dm1 X st (dmFor (rdXI it) dg (rdM body))) : Dm1 X st (rdM (xsFor it g body)) := h.weak fun nw nx rt env m ⟨xe, hr, q⟩ => by
  refine ⟨xe, hr.e, (Tr.wp_bind.mp q).mono fun ps m1 q => ⟨PDs_noc ps, fun i env mm => ∃ xe, Rl nw env xe ∧ (xsForL g body (ps.drop i) xe).wp mm (outOk nw nx rt), ⟨xe, hr, q⟩, ?_, ?_⟩⟩
  · rintro i d env mm hd ⟨xe, hr, q⟩
    rw [PDs_map, List.getElem?_map] at hd
    cases e : ps[i]? with
    | none => rw [e] at hd; cases hd
    | some p =>
      rw [e] at hd
      cases hd
      obtain ⟨hi, e2⟩ := List.getElem?_eq_some_iff.mp e
      rw [List.drop_eq_getElem_cons hi, e2, xsForL] at q
      split at q
      · next xe2 eg =>
        refine hg _ _ _ _ _ _ hr eg fun env2 hr2 => ⟨xe2, hr2, (Tr.wp_bind.mp q).mono fun o m2 q => ?_⟩
        cases o with
        | nx xe3 => exact fun env3 hr3 => ⟨xe3, hr3, q⟩
        | rt p => exact q
      · exact q.elim
  · rintro env mm ⟨xe, hr, q⟩
    rw [PDs_len, List.drop_length] at q
    exact q env hr
/-! lists that are filled -/
def xsApp (i : Nat) (x : XX) : XS := fun xe => match xe[i]? with
  | some (some (.own l)) => (x xe).bind fun p => .ok (decide (l.length < sizeLine)) (.ret (.nx (xe.set i (some (.own (l ++ [p]))))))
  | _ => .fail
theorem xsapp {i : Nat} {x : XX} (h : Dm1 X st (dmApp i (rdX x))) : Dm1 X st (rdM (xsApp i x)) := h.weak fun nw nx rt env m ⟨xe, hr, q⟩ => by
  unfold xsApp at q
  split at q
  · next l hx =>
    obtain ⟨o, e1, a, s⟩ := hr.e.get hx
    subst s
    have hn : nw a := hr.new a (cellsE_mem e1)
    refine ⟨a, PDs l, e1, hn, xe, hr.e, (Tr.wp_bind.mp q).mono fun p m1 q => ?_⟩
    obtain ⟨h1, q⟩ := Tr.wp_ok q
    refine ⟨p.noc, PDs_noc l, by rw [PDs_len]; exact of_decide_eq_true h1, hr.sep e1, ?_⟩
    have h3 := hr.fill e1 (l ++ [p])
    rw [PDs_app, PDs, PDs] at h3
    exact q _ h3
  · exact q.elim
def xsExt (i : Nat) (x : XX) : XS := fun xe => match xe[i]? with
  | some (some (.own l)) => (x xe).bind fun p => match p with
    | .lst r => .ok (sz (l.length + r.length)) (.ret (.nx (xe.set i (some (.own (l ++ r))))))
    | _ => .fail
  | _ => .fail
theorem xsext {i : Nat} {x : XX} (h : Dm1 X st (dmExt i (rdX x))) : Dm1 X st (rdM (xsExt i x)) := h.weak fun nw nx rt env m ⟨xe, hr, q⟩ => by
  unfold xsExt at q
  split at q
  · next l hx =>
    obtain ⟨o, e1, a, s⟩ := hr.e.get hx
    subst s
    have hn : nw a := hr.new a (cellsE_mem e1)
    refine ⟨a, PDs l, e1, hn, xe, hr.e, (Tr.wp_bind.mp q).mono fun p m1 q => ?_⟩
    cases p with
    | lst r =>
      obtain ⟨h1, q⟩ := Tr.wp_ok q
      refine ⟨PDs r, by rw [Pv.D], PDs_noc r, PDs_noc l, by rw [PDs_len, PDs_len]; exact of_decide_eq_true h1, hr.sep e1, ?_⟩
      have h3 := hr.fill e1 (l ++ r)
      rw [PDs_app] at h3
      exact q _ h3
    | _ => exact q.elim
  · exact q.elim
def xsSetI (i : Nat) (x ix : XX) : XS := fun xe => (x xe).bind fun p => match xe[i]? with
  | some (some (.own l)) => (ix xe).bind fun k => match k with
    | .int z => match ixN l.length z with
      | some j => .ret (.nx (xe.set i (some (.own (l.set j p)))))
      | none => .fail
    | _ => .fail
  | _ => .fail
theorem xsseti {i : Nat} {x ix : XX} (h : Dm1 X st (dmSetI i (rdX x) (rdX ix))) : Dm1 X st (rdM (xsSetI i x ix)) := h.weak fun nw nx rt env m ⟨xe, hr, q⟩ => by
  refine ⟨xe, hr.e, (Tr.wp_bind.mp q).mono fun p m1 q => ?_⟩
  split at q
  · next l hx =>
    obtain ⟨o, e1, a, s⟩ := hr.e.get hx
    subst s
    have hn : nw a := hr.new a (cellsE_mem e1)
    refine ⟨a, PDs l, e1, hn, xe, hr.e, (Tr.wp_bind.mp q).mono fun k m2 q => ?_⟩
    cases k with
    | int z =>
      dsimp only at q
      split at q
      · next j ej =>
        refine ⟨z, j, by rw [Pv.D], by rw [PDs_len]; exact ej, p.noc, PDs_noc l, hr.sep e1, ?_⟩
        have h3 := hr.fill e1 (l.set j p)
        have e4 : PDs (l.set j p) = (PDs l).set j p.D := by rw [PDs_map, PDs_map, List.map_set]
        rw [e4] at h3
        exact q _ h3
      · exact q.elim
    | _ => exact q.elim
  · exact q.elim
/-! the tail of a def -/
theorem not_cell {env : Env} {p : Addr} (h : ∀ (j : Nat) (q : Addr) (l : List D), env[j]? = some (some (.cell q l)) → q ≠ p) : p ∉ cellsE env := fun z => by
  obtain ⟨j, l, e⟩ := cellsE_of z
  exact h j p l e rfl
theorem xsT {a : XS} (h : Dm X sts (rdM a)) : DmT X sts (rdM a) := dmT_of h
theorem xsT1 {a : XS} (h : Dm1 X st (rdM a)) : DmT X [st] (rdM a) := dmT_one h
def xsNew (i : Nat) (a : XXA) (u : XS) : XS := fun xe => (a xe).bind fun ps => .ok (sz ps.length) (u (xe.set i (some (.own ps))))
theorem xsnew {i : Nat} {a : XXA} {u : XS} (h : DmT X sts (dmNew i (rdXA a) (rdM u))) : DmT X sts (rdM (xsNew i a u)) := h.weak fun nw nx rt env m ⟨xe, hr, q⟩ => by
  refine ⟨xe, hr.e, (Tr.wp_bind.mp q).mono fun ps m1 q => ?_⟩
  obtain ⟨h1, q⟩ := Tr.wp_ok q
  exact ⟨PDs_noc ps, by rw [PDs_len]; exact of_decide_eq_true h1, fun p hp hc => ⟨_, hr.fresh i ps hp (not_cell hc), q⟩⟩
def xsNewAdd (i : Nat) (a b : XX) (u : XS) : XS := fun xe => (a xe).bind fun p => (b xe).bind fun q => match p, q with
  | .lst l, .lst r => .ok (sz (l.length + r.length)) (u (xe.set i (some (.own (l ++ r)))))
  | _, _ => .fail
theorem xsnewadd {i : Nat} {a b : XX} {u : XS} (h : DmT X sts (dmNewAdd i (rdX a) (rdX b) (rdM u))) : DmT X sts (rdM (xsNewAdd i a b u)) := h.weak fun nw nx rt env m ⟨xe, hr, q⟩ => by
  refine ⟨xe, hr.e, (Tr.wp_bind.mp q).mono fun p m1 z => ⟨xe, hr.e, (Tr.wp_bind.mp z).mono fun r m2 y => ?_⟩⟩
  match p, r, y with
  | .lst l, .lst k, y =>
    obtain ⟨h1, y⟩ := Tr.wp_ok y
    refine ⟨PDs l, PDs k, by rw [Pv.D], by rw [Pv.D], by rw [← PDs_app]; exact PDs_noc _, by rw [PDs_len, PDs_len]; exact of_decide_eq_true h1, fun p hp hc => ⟨_, ?_, y⟩⟩
    rw [← PDs_app]
    exact hr.fresh i (l ++ k) hp (not_cell hc)
  | .lst l, .non, y => exact y.elim
  | .lst l, .bl _, y => exact y.elim
  | .lst l, .int _, y => exact y.elim
  | .lst l, .str _, y => exact y.elim
  | .lst l, .tup _, y => exact y.elim
  | .lst l, .obj _ _, y => exact y.elim
  | .lst l, .urn, y => exact y.elim
  | .lst l, .dct _, y => exact y.elim
  | .non, _, y => exact y.elim
  | .bl _, _, y => exact y.elim
  | .int _, _, y => exact y.elim
  | .str _, _, y => exact y.elim
  | .tup _, _, y => exact y.elim
  | .obj _ _, _, y => exact y.elim
  | .urn, _, y => exact y.elim
  | .dct _, _, y => exact y.elim
theorem plain_notin {env : Env} {i : Nat} {x : Pv} {p : Addr} (h : p ∉ cellsE env) : p ∉ cellsE (env.set i (some x.D)) := fun z => h ((cells_plain (cellOf_D x)).2 p z)
/-- a, l = e, [] and its like -/
def xsPar2B (i j : Nat) (x : XX) (u : XS) : XS := fun xe => (x xe).bind fun p => u ((xe.set i (some (.p p))).set j (some (.own [])))
theorem xspar2b {i j : Nat} {x : XX} {u : XS} (h : DmT X sts (dmPar2B i j (rdX x) (rdM u))) : DmT X sts (rdM (xsPar2B i j x u)) := h.weak fun nw nx rt env m ⟨xe, hr, q⟩ =>
  ⟨xe, hr.e, (Tr.wp_bind.mp q).mono fun d m1 q => fun p hp hc => ⟨_, (hr.plain i d).fresh j [] hp (plain_notin (not_cell hc)), q⟩⟩
def xsPar2A (i j : Nat) (x : XX) (u : XS) : XS := fun xe => (x xe).bind fun p => u ((xe.set i (some (.own []))).set j (some (.p p)))
theorem xspar2a {i j : Nat} {x : XX} {u : XS} (h : DmT X sts (dmPar2A i j (rdX x) (rdM u))) : DmT X sts (rdM (xsPar2A i j x u)) := h.weak fun nw nx rt env m ⟨xe, hr, q⟩ =>
  ⟨xe, hr.e, (Tr.wp_bind.mp q).mono fun d m1 q => ⟨d.noc, fun p hp hc => ⟨_, (hr.fresh i [] hp (not_cell hc)).plain j d, q⟩⟩⟩
def xsPar3O (i j k : Nat) (x y : XX) (u : XS) : XS := fun xe => (x xe).bind fun p => (y xe).bind fun q => u (((xe.set i (some (.p p))).set j (some (.p q))).set k (some (.own [])))
theorem xspar3o {i j k : Nat} {x y : XX} {u : XS} (h : DmT X sts (dmPar3O i j k (rdX x) (rdX y) (rdM u))) : DmT X sts (rdM (xsPar3O i j k x y u)) := h.weak fun nw nx rt env m ⟨xe, hr, q⟩ =>
  ⟨xe, hr.e, (Tr.wp_bind.mp q).mono fun d m1 q => ⟨xe, hr.e, (Tr.wp_bind.mp q).mono fun d2 m2 q => fun p hp hc => ⟨_, ((hr.plain i d).plain j d2).fresh k [] hp (plain_notin (plain_notin (not_cell hc))), q⟩⟩⟩
def xsPar3N (i j k : Nat) (x : XX) (u : XS) : XS := fun xe => (x xe).bind fun p => u (((xe.set i (some (.p p))).set j (some (.own []))).set k (some (.own [])))
theorem cells_fresh {env : Env} {i : Nat} {p q : Addr} {l : List D} (h : q ∈ cellsE (env.set i (some (.cell p l)))) : q = p ∨ q ∈ cellsE env := by
  cases hi : env[i]? with
  | none => rw [set_out hi] at h; exact .inr h
  | some o =>
    obtain ⟨a, b, e1, e2⟩ := set_split (y := (some (.cell p l) : Option D)) hi
    rw [e2, cellsE_eq, List.filterMap_append, List.filterMap_cons] at h
    have h2 : q ∈ a.filterMap cellOf ++ p :: b.filterMap cellOf := h
    rw [e1, cellsE_eq, List.filterMap_append, List.filterMap_cons]
    rcases List.mem_append.mp h2 with z | z
    · exact .inr (List.mem_append.mpr (.inl z))
    · rcases List.mem_cons.mp z with z | z
      · exact .inl z
      · refine .inr (List.mem_append.mpr (.inr ?_))
        split
        · exact z
        · exact List.mem_cons_of_mem _ z
theorem xspar3n {i j k : Nat} {x : XX} {u : XS} (h : DmT X sts (dmPar3N i j k (rdX x) (rdM u))) : DmT X sts (rdM (xsPar3N i j k x u)) := h.weak fun nw nx rt env m ⟨xe, hr, q⟩ => by
  refine ⟨xe, hr.e, (Tr.wp_bind.mp q).mono fun d m1 q => fun p r hp hr2 hne hc => ⟨_, ?_, q⟩⟩
  have h1 := (hr.plain i d).fresh j [] hp (plain_notin (not_cell fun j' c l e => (hc j' c l e).1))
  refine h1.fresh k [] hr2 fun z => ?_
  rcases cells_fresh z with z | z
  · exact hne z.symm
  · exact plain_notin (not_cell fun j' c l e => (hc j' c l e).2) z
/-- no list is filled any more -/
def relS : Option XV → Option XV
  | some (.own l) => some (.p (.lst l))
  | o => o
def xsRel (u : XS) : XS := fun xe => u (xe.map relS)
theorem xsrel {u : XS} (h : DmT X sts (dmRel (rdM u))) : DmT X sts (rdM (xsRel u)) := h.weak fun nw nx rt env m ⟨xe, hr, q⟩ => by
  refine ⟨relE_of (slot_ok hr.e) hr.new, xe.map relS, ⟨⟨by unfold relE; rw [List.length_map, List.length_map, hr.e.1], fun i o v e1 e2 => ?_⟩, ?_, ?_⟩, q⟩
  · unfold relE at e1
    rw [List.getElem?_map] at e1 e2
    cases hx : xe[i]? with
    | none => rw [hx] at e2; cases e2
    | some w =>
      rw [hx] at e2
      obtain ⟨o2, e3, s⟩ := hr.e.get hx
      rw [e3] at e1
      match w, e2, s with
      | some (.p x), e2, s =>
        have s2 : o2 = some x.D := s
        subst s2
        have e4 : o = some (rel x.D) := by simpa using e1.symm
        have e5 : v = some (.p x) := by simpa [relS] using e2.symm
        subst e5
        show o = some x.D
        rw [e4, rel_noc x.noc]
      | some (.own l), e2, s =>
        obtain ⟨a, s2⟩ := s
        subst s2
        have e4 : o = some (.lst (PDs l)) := by simpa [rel] using e1.symm
        have e5 : v = some (.p (.lst l)) := by simpa [relS] using e2.symm
        subst e5
        show o = some (Pv.lst l).D
        rw [e4, Pv.D]
      | none, e2, s =>
        have s2 : o2 = none := s
        subst s2
        have e4 : o = none := by simpa using e1.symm
        have e5 : v = none := by simpa [relS] using e2.symm
        subst e5
        exact e4
  all_goals
    have hc : cellsE (relE env) = [] := by
      rw [cellsE_eq]
      refine List.filterMap_eq_nil_iff.mpr fun o ho => ?_
      unfold relE at ho
      obtain ⟨o2, _, rfl⟩ := List.mem_map.mp ho
      cases o2 with
      | none => rfl
      | some d => cases d <;> rfl
    rw [hc]
  · exact .nil
  · exact nofun
end
/-! ### a def -/
def xFn (n k : Nat) (body : XS) : GA := fun ps => .ok (ps.length == k) ((body (ps.map (fun p => some (.p p)) ++ List.replicate (n - ps.length) none)).bind fun o => match o with
  | .nx _ => .ret .non
  | .rt p => .ret p)
section
variable {P : Program} {w : World} {K : PySem.W.Frag} {mg : Str → Option Value} {base : Heap}
theorem rl_start {nw : Addr → Prop} (n : Nat) (ps : List Pv) : Rl nw (((PDs ps).map some) ++ List.replicate n none) (ps.map (fun p => some (.p p)) ++ List.replicate n none) := by
  have hn : cellsE (((PDs ps).map some) ++ List.replicate n none) = [] := by
    rw [cellsE_eq]
    refine List.filterMap_eq_nil_iff.mpr fun o ho => ?_
    rcases List.mem_append.mp ho with h | h
    · obtain ⟨d, hd, rfl⟩ := List.mem_map.mp h
      rw [PDs_map] at hd
      obtain ⟨p, _, rfl⟩ := List.mem_map.mp hd
      exact cellOf_D p
    · rw [(List.mem_replicate.mp h).2]; rfl
  refine ⟨⟨by simp [PDs_len], fun i o v e1 e2 => ?_⟩, by rw [hn]; exact .nil, by rw [hn]; exact nofun⟩
  rw [PDs_map, List.map_map] at e1
  by_cases hi : i < ps.length
  · rw [List.getElem?_append_left (by simpa using hi), List.getElem?_map] at e1 e2
    cases e : ps[i]? with
    | none => rw [e] at e1; cases e1
    | some p => rw [e] at e1 e2; cases e1; cases e2; rfl
  · rw [List.getElem?_append_right (by simpa using hi)] at e1 e2
    have a1 := (List.getElem?_eq_some_iff.mp e1).2
    have a2 := (List.getElem?_eq_some_iff.mp e2).2
    simp at a1 a2
    rw [← a1, ← a2]; rfl
theorem fnX {x qual : Str} {st : Stmt} {f : Addr} {fd : FuncData} {N ps : List Str} {k n np : Nat} {body : XS} (F : Fun K x qual st f fd) (S : FnScope N ps (defScope st)) (hn : N.length = n) (hp : ps.length = np)
    (hbody : ∀ (cdv : Value) (A : Around) (outer : List PySem.Env) (s : Shared) (H : Hp) (E : XK), Room k (A.deeper (envOfC qual (defScope st) s.heap.objs.size f cdv)) →
      ∃ t, DmT (cxOf CX0 P w K mg base N qual (defScope st) f cdv A outer s H E).nox (defBody st) t ∧ t = rdM body) : FnOk P w K mg base CX0 (k + 1) f fd ps (spD (spX (xFn n np body))) := by
  subst hn; subst hp
  refine fnM F S ?_ fun cdv A outer s H E ds m Q' hr h => ?_
  · rintro ds m Q ⟨qs, rfl, h⟩
    obtain ⟨h1, _⟩ := Tr.wp_ok h
    rw [PDs_len]; simpa using h1
  · obtain ⟨qs, rfl, h⟩ := h
    obtain ⟨h1, h⟩ := Tr.wp_ok h
    obtain ⟨t, ht, rfl⟩ := hbody cdv A outer s H E hr
    refine ⟨_, ht, fun nw => ⟨_, ?_, (Tr.wp_bind.mp h).mono fun o m1 q => ?_⟩⟩
    · have := rl_start (nw := nw) (N.length - qs.length) qs
      rw [← PDs_len qs] at this
      rw [← PDs_len qs]
      exact this
    · cases o with
      | nx xe => exact fun _ _ => q
      | rt p => exact q
end
end TC
/-! TX5: a copied list that a def fills or empties -/
namespace TC
open PySem PySem.Spec PyProof.Rows L2
variable [Cl]
/-- a new list at p, of these items -/
theorem cell_uiL {w : W} {p : Addr} {H : Hp} {m : Nat} {vs : List V} (u : UI w m H) (hp : H p = none) : UI (w.cell p) m (upd H p (.lst vs)) := ⟨fun b e => (u.upd (o := .lst vs) hp).1 b e, fun b hb => by
  rcases List.mem_cons.mp hb with rfl | hb
  · exact ⟨_, upd_same⟩
  · exact (u.upd (o := .lst vs) hp).2 b hb⟩
theorem cell_hdL {w : W} {p : Addr} {H : Hp} {m : Nat} {vs : List V} {l : List D} (u : UI w m H) (hp : H p = none) (h : Hds w H vs l) : Hd (w.cell p) (upd H p (.lst vs)) (.ref p) (.cell p l) := by
  rw [Hd.cell]
  refine ⟨rfl, List.mem_cons_self .., fun z => ?_, vs, upd_same, ((h.grow (TC.W.cell_gr hp)).fr (Fr.upd hp))⟩
  have z2 : w.u = some p := z
  obtain ⟨x, y, z, e', _⟩ := u.1 p z2
  rw [hp] at e'; cases e'
section
variable {X : Cx} {e : Expr} {rest : List Stmt} {pos : Pos} {te : DE} {um : DM}
def dmNewL (i : Nat) (te : DE) (u : DM) : DM := fun nw nx rt env m => te env m fun d m1 => ∃ l, (d = .lst l ∨ d = .tup l) ∧ nocL l = true ∧ ∀ p, nw p → (∀ (j' : Nat) (c : Addr) (k : List D), env[j']? = some (some (.cell c k)) → c ≠ p) → u nw nx rt (env.set i (some (.cell p l))) m1
theorem list_of {w : W} {H : Hp} {K : PySem.W.Frag} (hK : K = Cl.K) {v : V} {d : D} {l : List D} (h : Hd w H v d) (hd : d = .lst l ∨ d = .tup l) : ∃ p ys, v = .ref p ∧ (SqL K H p ys ∨ SqT K H p ys) ∧ Hds w H ys l := by
  rcases hd with rfl | rfl
  · rw [Hd.lst] at h
    obtain ⟨p, vp, rfl, _, e, h⟩ := h
    exact ⟨p, vp, rfl, .inl (SqL.of e), h⟩
  · rw [Hd.tup] at h
    obtain ⟨p, vp, rfl, e, h⟩ := h
    exact ⟨p, vp, rfl, .inr (e.sq hK), h⟩
/-- x = list(e) -/
theorem dmT_newL {i : Nat} {x : Str} {px p0 cpos : Pos} (hm : X.mg "list" = none) (hN : X.N.Nodup) (ha : De X e te) (h : DmT X rest um) (hi : X.N[i]? = some x := by rfl) (hx : Loc X.env.scope x := by first | exact Or.inl rfl | exact Or.inr rfl)
    (hg : Gl X "list" := by rfl) (hst : starEach [e] X.env = (false, eval e X.env) :: starEach [] X.env := by rfl) (hpl : (backTo cpos (starEach [] X.env)).any (·.1) = false := by rfl)
    (hs : swapsWith (.Call (.Name "list" p0) [e] [] cpos) (some (.Name x px)) pos.line X.env = pure false := by rfl)
    (hf : X.fn x = true ∨ X.env.scope.names.lookup x = some .local := by first | exact .inl rfl | exact .inr rfl | assumption) (hK : X.K = Cl.K := by rfl) :
    DmT X (.Assign [.Name x px] (.Call (.Name "list" p0) [e] [] cpos) pos :: rest) (dmNewL i te um) := by
  refine ⟨fun w0 H0 w nw σ H env m nx rt Dn W f sl hu q c r => wpSs_of (pss_cons (ps_set hN hi hx (pe_callTy call_list_of hg hm (by decide +kernel) (pa_cons pe_self pa_nil hst) (by decide) (by decide) hst hpl) hs hf) pss_self) ?_⟩
  refine ha.run w σ H env m _ _ sl hu q fun v1 d m1 H1 f1 u1 h1 q1 => ?_
  obtain ⟨l, hd, nc, q1⟩ := q1
  obtain ⟨a, ys, rfl, hq, hy⟩ := list_of hK h1 hd
  refine ⟨a, ys, rfl, hq, fun p hp => ?_⟩
  have fr0 := f.trans (f1.lessW W.l)
  have np : nw p := (W.new p).2 (fr0.free (u1.lessW W.l) hp)
  have q3 := q1 p np fun j' c l e => by
    obtain ⟨v, _, hv⟩ := (sl.fr f1).2 j' _ e
    rw [Hd.cell] at hv
    obtain ⟨_, _, _, us, hk, _⟩ := hv
    exact ne_of_none hk hp
  have gr1 := TC.W.cell_gr (w := w) hp
  refine h.run w0 H0 (w.cell p) nw _ _ _ m1 nx rt Dn ⟨⟨W.l.u, fun a ha => List.mem_cons_of_mem _ (W.l.ex a ha)⟩, W.new, W.av⟩ (fr0.trans (Fr.upd hp)) ?_ (cell_uiL u1 hp) q3 c r
  have s2 := (((sl.fr f1).grow gr1).fr (Fr.upd (o := .lst ys) hp))
  exact s2.set i (cell_hdL u1 hp hy)
def dmPar2C (i j : Nat) (te : DE) (u : DM) : DM := fun nw nx rt env m => te env m fun d m1 => ∃ l, (d = .lst l ∨ d = .tup l) ∧ nocL l = true ∧ ∀ p q, nw p → nw q → p ≠ q → (∀ (j' : Nat) (c : Addr) (k : List D), env[j']? = some (some (.cell c k)) → c ≠ p ∧ c ≠ q) →
  u nw nx rt ((env.set i (some (.cell p l))).set j (some (.cell q []))) m1
/-- x, y = list(e), [] -/
theorem dmT_par2c {i j : Nat} {x y : Str} {px py pt p0 cpos l2 : Pos} {kt k2 pt2} (hm : X.mg "list" = none) (hc : X.calm = true) (hN : X.N.Nodup) (ha : De X e te) (hr : DmT X rest um) (hi : X.N[i]? = some x := by rfl) (hj : X.N[j]? = some y := by rfl) (hij : i ≠ j := by decide)
    (hx : X.env.scope.names.lookup x = some .local := by rfl) (hy : X.env.scope.names.lookup y = some .local := by rfl)
    (hw : swappedStores [.Tuple [.Name x px, .Name y py] kt pt] (.Tuple [.Call (.Name "list" p0) [e] [] cpos, .List [] l2] k2 pt2) X.env = pure (some [x, y]) := by rfl)
    (hs : swapsWithSole [.Tuple [.Name x px, .Name y py] kt pt] (.Tuple [.Call (.Name "list" p0) [e] [] cpos, .List [] l2] k2 pt2) pos.line X.env = pure false := by rfl)
    (hg : Gl X "list" := by rfl) (hst : starEach [e] X.env = (false, eval e X.env) :: starEach [] X.env := by rfl) (hpl : (backTo cpos (starEach [] X.env)).any (·.1) = false := by rfl)
    (g2 : starEach [.Call (.Name "list" p0) [e] [] cpos, .List [] l2] X.env = (false, eval (.Call (.Name "list" p0) [e] [] cpos) X.env) :: starEach [.List [] l2] X.env := by rfl)
    (g3 : starEach [.List [] l2] X.env = (false, eval (.List [] l2) X.env) :: starEach [] X.env := by rfl) (hK : X.K = Cl.K := by rfl) :
    DmT X (.Assign [.Tuple [.Name x px, .Name y py] kt pt] (.Tuple [.Call (.Name "list" p0) [e] [] cpos, .List [] l2] k2 pt2) pos :: rest) (dmPar2C i j te um) := by
  refine ⟨fun w0 H0 w nw σ H env m nx rt Dn W f sl hu q c r => wpSs_of (pss_cons (ps_par hc hN hi hj hij hx hy (pa_cons (pe_callTy call_list_of hg hm (by decide +kernel) (pa_cons pe_self pa_nil hst) (by decide) (by decide) hst hpl) (pa_cons (pe_lst pa_nil) pa_nil g3) g2) hw hs) pss_self) ?_⟩
  refine ha.run w σ H env m _ _ sl hu q fun v1 d m1 H1 f1 u1 h1 q1 => ?_
  obtain ⟨l, hd, nc, q1⟩ := q1
  obtain ⟨a, ys, rfl, hq, hy⟩ := list_of hK h1 hd
  refine ⟨a, ys, rfl, hq, fun p hp => ?_⟩
  refine ⟨Nat.zero_le _, fun p' hp' => ?_⟩
  refine ⟨_, _, rfl, ?_⟩
  have fr0 := f.trans (f1.lessW W.l)
  have np : nw p := (W.new p).2 (fr0.free (u1.lessW W.l) hp)
  have fr1 : Fr w0 H0 (upd H1 p (.lst ys)) := fr0.trans (Fr.upd hp)
  have ne : p ≠ p' := fun z => by rw [← z, upd_same] at hp'; cases hp'
  have hp1 : H1 p' = none := by rw [upd_ne (Ne.symm ne)] at hp'; exact hp'
  have np' : nw p' := (W.new p').2 (fr0.free (u1.lessW W.l) hp1)
  have q2 := q1 p p' np np' ne fun j' c l e => by
    obtain ⟨v, _, hv⟩ := (sl.fr f1).2 j' _ e
    rw [Hd.cell] at hv
    obtain ⟨_, _, _, us, hk, _⟩ := hv
    exact ⟨ne_of_none hk hp, ne_of_none hk hp1⟩
  have u2 := cell_uiL (vs := ys) u1 hp
  have u3 := TC.W.cell_ui u2 hp'
  have gr1 := TC.W.cell_gr (w := w) hp
  have gr2 := TC.W.cell_gr (w := w.cell p) hp'
  refine hr.run w0 H0 ((w.cell p).cell p') nw _ _ _ m1 nx rt Dn ⟨⟨W.l.u, fun a ha => List.mem_cons_of_mem _ (List.mem_cons_of_mem _ (W.l.ex a ha))⟩, W.new, W.av⟩ (fr1.trans (Fr.upd hp')) ?_ u3 q2 c r
  have s2 := (((sl.fr f1).grow gr1).fr (Fr.upd (o := .lst ys) hp))
  have s3 := ((s2.grow gr2).fr (Fr.upd (o := .lst []) hp'))
  exact (s3.set i (((cell_hdL u1 hp hy).grow gr2).fr (Fr.upd (o := .lst []) hp'))).set j (TC.W.cell_hd u2 hp')
/-- f.append(r.pop(e)) -/
def dmAppPop (i j : Nat) (ti : DE) : DM := fun nw nx _ env m => ∃ p l q r, env[i]? = some (some (.cell p l)) ∧ env[j]? = some (some (.cell q r)) ∧ nw p ∧ nw q ∧ p ≠ q ∧ nocL l = true ∧ nocL r = true ∧ ti env m fun k m1 => ∃ (z : Int) (d : D), k = .int z ∧ 0 ≤ z ∧ r[z.toNat]? = some d ∧ noc d = true ∧ l.length < sizeLine ∧ r.length ≤ sizeLine ∧
  SepL q (env.set j none) ∧ SepL p ((env.set j (some (.cell q (r.eraseIdx z.toNat)))).set i none) ∧ nx ((env.set j (some (.cell q (r.eraseIdx z.toNat)))).set i (some (.cell p (l ++ [d])))) m1
theorem Hds.eraseX {w : W} {H : Hp} : ∀ {ds : List D} {vs : List V} (n : Nat), Hds w H vs ds → Hds w H (vs.eraseIdx n) (ds.eraseIdx n)
  | [], vs, n, h => by rw [h.unnil]; simpa using Hds.nil
  | d :: ds, vs, 0, h => by
    obtain ⟨x, xs, rfl, h1, h2⟩ := h.uncons
    simpa using h2
  | d :: ds, vs, n + 1, h => by
    obtain ⟨x, xs, rfl, h1, h2⟩ := h.uncons
    simpa using Hds.cons h1 (h2.eraseX n)
theorem nocL_erase {l : List D} (h : nocL l = true) (n : Nat) : nocL (l.eraseIdx n) = true := nocL_mem fun d hd => nocL_of h d (List.mem_of_mem_eraseIdx hd)
theorem dm_apppop {i j : Nat} {f r : Str} {ix : Expr} {ti : DE} {pf pr ap ap2 cp cp2 : Pos} (hv : De X (.Name f pf) (dVar i)) (hr : De X (.Name r pr) (dVar j)) (hix : De X ix ti)
    (hbase : attributeBase (.Name f pf) "append" X.env (eval (.Name f pf) X.env) = eval (.Name f pf) X.env := by rfl)
    (hfew : ((backTo cp (starEach [.Call (.Attribute (.Name r pr) "pop" ap2) [ix] [] cp2] X.env)).all (fun x => !x.1) && (backToKw cp (keywordEach [] X.env)).all (fun x => x.1.isSome)
      && decide (([.Call (.Attribute (.Name r pr) "pop" ap2) [ix] [] cp2] : List Expr).length + ([] : List Keyword).length + (if ([] : List Keyword).isEmpty then 0 else 1) < 30)) = true := by rfl)
    (hline : (ap.endLine == cp.line) = true := by rfl) (hs : starEach [.Call (.Attribute (.Name r pr) "pop" ap2) [ix] [] cp2] X.env = (false, eval (.Call (.Attribute (.Name r pr) "pop" ap2) [ix] [] cp2) X.env) :: starEach [] X.env := by rfl) (hplain : (backTo cp (starEach [] X.env)).any (·.1) = false := by rfl)
    (hbase2 : attributeBase (.Name r pr) "pop" X.env (eval (.Name r pr) X.env) = eval (.Name r pr) X.env := by rfl)
    (hfew2 : ((backTo cp2 (starEach [ix] X.env)).all (fun x => !x.1) && (backToKw cp2 (keywordEach [] X.env)).all (fun x => x.1.isSome)
      && decide (([ix] : List Expr).length + ([] : List Keyword).length + (if ([] : List Keyword).isEmpty then 0 else 1) < 30)) = true := by rfl)
    (hline2 : (ap2.endLine == cp2.line) = true := by rfl) (hs2 : starEach [ix] X.env = (false, eval ix X.env) :: starEach [] X.env := by rfl) (hplain2 : (backTo cp2 (starEach [] X.env)).any (·.1) = false := by rfl)
    (hsw : swapsWith (.Call (.Attribute (.Name f pf) "append" ap) [.Call (.Attribute (.Name r pr) "pop" ap2) [ix] [] cp2] [] cp) none pos.line X.env = pure false := by rfl) :
    Dm1 X (.Expr (.Call (.Attribute (.Name f pf) "append" ap) [.Call (.Attribute (.Name r pr) "pop" ap2) [ix] [] cp2] [] cp) pos) (dmAppPop i j ti) := by
  refine ⟨fun w0 H0 w nw σ H env m nx rt Dn W fq sl hu q c rr => wpS_of (ps_expr (pe_bm PySem.F.plainAttrs_list PySem.F.slot_list_append PySem.F.type_list_append mt_append pe_self (pa_cons (pe_bm PySem.F.plainAttrs_list PySem.F.slot_list_pop PySem.F.type_list_pop mt_popAt pe_self (pa_cons pe_self pa_nil hs2) hbase2 hfew2 hline2 hs2 hplain2) pa_nil hs) hbase hfew hline hs hplain) hsw) ?_⟩
  obtain ⟨p, l, qa, rl, e0, e1, np, nq, hpq, nl, nr, q⟩ := q
  refine hv.run w σ H env m (fun d mm => d = .cell p l ∧ mm = m) _ sl hu ⟨_, e0, rfl, rfl⟩ fun v d m1 H1 f1 u1 h1 q1 => ?_
  obtain ⟨rfl, rfl⟩ := q1
  rw [Hd.cell] at h1
  obtain ⟨rfl, mc, nu, vs, hp, hvs⟩ := h1
  refine ⟨.inl ⟨rfl, vs, SqL.of hp⟩, ?_⟩
  refine hr.run w σ H1 env m1 (fun d mm => d = .cell qa rl ∧ mm = m1) _ (sl.fr f1) u1 ⟨_, e1, rfl, rfl⟩ fun v d m2 H2 f2 u2 h2 q2 => ?_
  obtain ⟨rfl, rfl⟩ := q2
  rw [Hd.cell] at h2
  obtain ⟨rfl, mc2, nu2, us, hp2, hus⟩ := h2
  refine ⟨.inl ⟨rfl, us, SqL.of hp2⟩, ?_⟩
  refine hix.run w σ H2 env m2 _ _ ((sl.fr f1).fr f2) u2 q fun y dy m3 H3 f3 u3 h3 q3 => ?_
  obtain ⟨z, d, rfl, z0, ed, nd, hlen, hrl, sep2, sep1, q4⟩ := q3
  rw [Hd.int] at h3
  subst h3
  have fr := (f1.trans f2).trans f3
  have hpA : H3 p = some (.lst vs) := f3 _ _ nu (f2 _ _ nu hp)
  have hqA : H3 qa = some (.lst us) := f3 _ _ nu2 hp2
  have husA := hus.fr f3
  have hvsA := (hvs.fr f2).fr f3
  have zl : z.toNat < rl.length := (List.getElem?_eq_some_iff.mp ed).1
  have zu : z.toNat < us.length := by rw [husA.len]; exact zl
  obtain ⟨y0, ey, hy⟩ := husA.get ed
  have sl63 : (sizeLine : Int) < 2 ^ 63 := by decide
  have ul : us.length ≤ sizeLine := by rw [husA.len]; exact hrl
  refine ⟨qa, us, z, z.toNat, y0, rfl, rfl, hqA, by omega, by omega, ?_, ey, ?_⟩
  · have : z < (us.length : Int) := by omega
    simp [seqIndex?, show ¬ z < 0 by omega, z0, this]
  have mex := w.sub _ mc
  have mex2 := w.sub _ mc2
  refine ⟨p, vs, y0, rfl, rfl, by rw [upd_ne hpq]; exact hpA, by rw [hvsA.len]; exact hlen, ?_⟩
  have slA := sl.fr fr
  have hnq : qa ∉ [] := nofun
  have s1 := cell_fill slA e1 sep2 (nocL_erase nr z.toNat) (husA.eraseX z.toNat)
  have u4 : UI w m3 (upd H3 qa (.lst (us.eraseIdx z.toNat))) := u3.put mex2 nu2
  have hy4 : Hd w (upd H3 qa (.lst (us.eraseIdx z.toNat))) y0 d := by
    refine hy.frx (fun b o nb e => ?_) nd
    rw [upd_ne (fun zz => nb (by rw [zz]; exact .inr mex2))]; exact e
  have hvs4 : Hds w (upd H3 qa (.lst (us.eraseIdx z.toNat))) vs l := by
    refine hvsA.frx (fun b o nb e => ?_) nl
    rw [upd_ne (fun zz => nb (by rw [zz]; exact .inr mex2))]; exact e
  have hij : j ≠ i := fun z => by
    subst z
    rw [e0] at e1
    cases e1
    exact hpq rfl
  have e0' : (env.set j (some (.cell qa (rl.eraseIdx z.toNat))))[i]? = some (some (.cell p l)) := by rw [List.getElem?_set_ne hij]; exact e0
  refine c _ _ m3 _ (fun b o nb e => ?_) (fun b o nb e => ?_) (fun b e => ?_) (u4.put mex nu) (cell_fill s1 e0' sep1 (nocL_app nl (by rw [nocL, nd]; rfl)) (hvs4.app (.cons hy4 .nil))) q4
  · rw [upd_ne (ne_of_none e ((W.new p).1 np)), upd_ne (ne_of_none e ((W.new qa).1 nq))]
    exact (fq.trans (fr.lessW W.l)) b o nb e
  · rw [upd_ne (fun z => nb (by rw [z]; exact .inr mex)), upd_ne (fun z => nb (by rw [z]; exact .inr mex2))]
    exact fr.x b o nb e
  · by_cases hb : b = p
    · rw [hb, upd_same] at e; cases e
    · rw [upd_ne hb] at e
      by_cases hb2 : b = qa
      · rw [hb2, upd_same] at e; cases e
      · rw [upd_ne hb2] at e
        exact fr.free u3 e
theorem erase_map {α β : Type} (f : α → β) : ∀ (l : List α) (n : Nat), (l.eraseIdx n).map f = (l.map f).eraseIdx n
  | [], n => by simp
  | x :: l, 0 => by simp
  | x :: l, n + 1 => by simp [erase_map f l n]
/-! as programs -/
variable {st : Stmt} {sts : List Stmt}
def seqP (p : Pv) : Tr (List Pv) := match p with
  | .lst l => .ret l
  | .tup l => .ret l
  | _ => .fail
theorem seqP_wp {p : Pv} {m : Nat} {Q : List Pv → Nat → Prop} (h : (seqP p).wp m Q) : ∃ l, (p.D = .lst (PDs l) ∨ p.D = .tup (PDs l)) ∧ Q l m := by
  cases p with
  | lst l => exact ⟨l, .inl (by rw [Pv.D]), h⟩
  | tup l => exact ⟨l, .inr (by rw [Pv.D]), h⟩
  | _ => exact h.elim
def xsNewL (i : Nat) (x : XX) (u : XS) : XS := fun xe => (x xe).bind fun p => (seqP p).bind fun l => u (xe.set i (some (.own l)))
theorem xsnewl {i : Nat} {x : XX} {u : XS} (h : DmT X sts (dmNewL i (rdX x) (rdM u))) : DmT X sts (rdM (xsNewL i x u)) := h.weak fun nw nx rt env m ⟨xe, hr, q⟩ => by
  refine ⟨xe, hr.e, (Tr.wp_bind.mp q).mono fun p m1 q => ?_⟩
  obtain ⟨l, hl, q⟩ := seqP_wp (Tr.wp_bind.mp q)
  exact ⟨PDs l, hl, PDs_noc l, fun a ha hc => ⟨_, hr.fresh i l ha (not_cell hc), q⟩⟩
def xsPar2C (i j : Nat) (x : XX) (u : XS) : XS := fun xe => (x xe).bind fun p => (seqP p).bind fun l => u ((xe.set i (some (.own l))).set j (some (.own [])))
theorem xspar2c {i j : Nat} {x : XX} {u : XS} (h : DmT X sts (dmPar2C i j (rdX x) (rdM u))) : DmT X sts (rdM (xsPar2C i j x u)) := h.weak fun nw nx rt env m ⟨xe, hr, q⟩ => by
  refine ⟨xe, hr.e, (Tr.wp_bind.mp q).mono fun p m1 q => ?_⟩
  obtain ⟨l, hl, q⟩ := seqP_wp (Tr.wp_bind.mp q)
  refine ⟨PDs l, hl, PDs_noc l, fun a b ha hb hne hc => ⟨_, ?_, q⟩⟩
  have h1 := hr.fresh i l ha (not_cell fun j' c k e => (hc j' c k e).1)
  refine h1.fresh j [] hb fun z => ?_
  rcases cells_fresh z with z | z
  · exact hne z.symm
  · exact not_cell (fun j' c k e => (hc j' c k e).2) z
def xsAppPop (i j : Nat) (ix : XX) : XS := fun xe => match xe[i]?, xe[j]? with
  | some (some (.own l)), some (some (.own r)) => if i = j then .fail else (ix xe).bind fun k => match k with
    | .int (.ofNat z) => match r[z]? with
      | some d => .ok (decide (l.length < sizeLine) && sz r.length) (.ret (.nx ((xe.set j (some (.own (r.eraseIdx z)))).set i (some (.own (l ++ [d]))))))
      | none => .fail
    | _ => .fail
  | _, _ => .fail
theorem xsapppop {i j : Nat} {ix : XX} (h : Dm1 X st (dmAppPop i j (rdX ix))) : Dm1 X st (rdM (xsAppPop i j ix)) := h.weak fun nw nx rt env m ⟨xe, hr, q⟩ => by
  unfold xsAppPop at q
  split at q
  · next l r hx1 hx2 =>
    split at q
    · exact q.elim
    · next hij =>
      obtain ⟨o, e1, a, s⟩ := hr.e.get hx1
      subst s
      obtain ⟨o, e2, b, s⟩ := hr.e.get hx2
      subst s
      have hna := hr.new a (cellsE_mem e1)
      have hnb := hr.new b (cellsE_mem e2)
      have hab : a ≠ b := fun z => by
        subst z
        have nd := hr.sep e1
        have e3 : (env.set i none)[j]? = some (some (.cell a (PDs r))) := by rw [List.getElem?_set_ne hij]; exact e2
        rcases nd.at e3 with z | ⟨q, l, e4, ne, _⟩
        · cases z
        · cases e4; exact ne rfl
      refine ⟨a, PDs l, b, PDs r, e1, e2, hna, hnb, hab, PDs_noc l, PDs_noc r, xe, hr.e, (Tr.wp_bind.mp q).mono fun k m1 q => ?_⟩
      split at q
      · next z =>
        split at q
        · next d hd =>
          obtain ⟨h1, q⟩ := Tr.wp_ok q
          rw [Bool.and_eq_true] at h1
          have ed : (PDs r)[z]? = some d.D := by rw [PDs_map, List.getElem?_map, hd]; rfl
          have er : PDs (r.eraseIdx z) = (PDs r).eraseIdx z := by rw [PDs_map, PDs_map, erase_map]
          have hr2 := hr.fill e2 (r.eraseIdx z)
          have e1' : (env.set j (some (.cell b (PDs (r.eraseIdx z)))))[i]? = some (some (.cell a (PDs l))) := by rw [List.getElem?_set_ne (Ne.symm hij)]; exact e1
          have h3 := hr2.fill e1' (l ++ [d])
          have s1 := hr2.sep e1'
          rw [PDs_app, PDs, PDs] at h3
          rw [er] at h3 s1
          refine ⟨z, d.D, by rw [Pv.D]; rfl, by omega, ed, d.noc, by rw [PDs_len]; exact of_decide_eq_true h1.1, by rw [PDs_len]; exact of_decide_eq_true h1.2, hr.sep e2, s1, q _ h3⟩
        · exact q.elim
      · exact q.elim
  · exact q.elim
/-- list(l), l a list that is being filled -/
def xListC (i : Nat) : XX := fun xe => match xe[i]? with
  | some (some (.own l)) => .ret (.lst l)
  | _ => .fail
theorem xlistc {i : Nat} (h : De X e (dCall (fun ds m Q => ∃ p l, ds = [.cell p l] ∧ Q (.lst l) m) (dCons (dVar i) dNil))) : De X e (rdX (xListC i)) := h.weak fun env m Q ⟨xe, hr, q⟩ => by
  unfold xListC at q
  split at q
  · next l hx =>
    obtain ⟨o, e1, a, s⟩ := hr.get hx
    subst s
    have h3 : Q (Pv.lst l).D m := q
    rw [Pv.D] at h3
    exact ⟨_, e1, a, PDs l, rfl, h3⟩
  · exact q.elim
end
/-- nothing, whatever is handed in -/
theorem fnX0 {P : Program} {w : World} {K : PySem.W.Frag} {mg : Str → Option Value} {base : Heap} {x qual : Str} {st : Stmt} {f : Addr} {fd : FuncData} {N ps : List Str} {k : Nat} (F : Fun K x qual st f fd) (S : FnScope N ps (defScope st)) : FnOk P w K mg base CX0 (k + 1) f fd ps (spD (spX fun _ => .fail)) := by
  refine fnM F S ?_ fun cdv A outer s H E ds m Q' hr h => ?_
  · rintro ds m Q ⟨qs, rfl, h⟩; exact h.elim
  · obtain ⟨qs, rfl, h⟩ := h; exact h.elim
theorem FnOk.spw {P : Program} {w : World} {K : PySem.W.Frag} {mg : Str → Option Value} {base : Heap} {f : Addr} {fd : FuncData} {ps : List Str} {k : Nat} {sp sp' : DSp} (h : FnOk P w K mg base CX0 k f fd ps (spD sp)) (hw : ∀ ds m Q, sp' ds m Q → sp ds m Q) : FnOk P w K mg base CX0 k f fd ps (spD sp') := h.imp fun vs H Q E => spD_weak hw
end TC
/-! TX6: comprehensions and ranges that look at lists that are being filled; targets that are asked for in a comprehension; own operators -/
namespace TC
open PySem PySem.Spec PyProof.Rows L2
variable [Cl]
def wipeX (xe : XEnv) : List Nat → XEnv
  | [] => xe
  | v :: vs => (wipeX xe vs).set v none
theorem RlE.wipe {env : Env} {xe : XEnv} (h : RlE env xe) : ∀ vs : List Nat, RlE (wipeE env vs) (wipeX xe vs)
  | [] => h
  | v :: vs => (h.wipe vs).set v rfl
def GE (dg : DG) (g : XGM) : Prop := ∀ p env xe xe2 (Q : Env → Prop), RlE env xe → g p xe = some xe2 → (∀ env2, RlE env2 xe2 → Q env2) → dg p.D env Q
theorem ge_name {i : Nat} : GE (dgName i) (asgN XV.p i) := fun p env xe xe2 Q hr e q => by
  cases e; exact q _ (hr.set i (v := some (.p p)) (o := some p.D) rfl)
theorem ge_tup2 {i j : Nat} : GE (dgTup2 i j) (asgT XV.p [i, j]) := fun p env xe xe2 Q hr e q => by
  unfold asgT at e
  split at e
  · next ps =>
    match ps, e with
    | [a, b], e =>
      cases e
      exact ⟨a.D, b.D, by rw [Pv.D, PDs, PDs, PDs], q _ ((hr.set i (v := some (.p a)) (o := some a.D) rfl).set j (v := some (.p b)) (o := some b.D) rfl)⟩
    | [], e => cases e
    | [_], e => cases e
    | _ :: _ :: _ :: _, e => cases e
  · cases e
def XTOk (dt : DT) (t : XXT) : Prop := ∀ env m Q, rdXT t env m Q → dt env m Q
def xYesX : XXT := fun _ => .ret true
theorem xtok_yes : XTOk dYes xYesX := fun env m Q ⟨pe, hs, q⟩ => q
theorem xtok_t {t : XXT} : XTOk (rdXT t) t := fun env m Q q => q
def xLcXL (g : XGM) (t : XXT) (x : XX) (xe : XEnv) : List Pv → Tr (List Pv)
  | [] => .ret []
  | p :: ps => match g p xe with
    | some xe2 => (t xe2).bind fun b => if b = true then (x xe2).bind fun y => (xLcXL g t x xe ps).bind fun ys => .ret (y :: ys) else xLcXL g t x xe ps
    | none => .fail
def xLcX (it : XXA) (g : XGM) (t : XXT) (x : XX) (vs : List Nat) : XX := fun xe => (it xe).bind fun ps => .ok (sz ps.length) ((xLcXL g t x (wipeX xe vs) ps).bind fun ys => .ret (.lst ys))
theorem lcX_of {it : XXA} {dg : DG} {g : XGM} {dt : DT} {t : XXT} {x : XX} {vs : List Nat} (hg : GE dg g) (ht : XTOk dt t) {env m} {Q : D → Nat → Prop} (h : rdX (xLcX it g t x vs) env m Q) : dLc (rdXI it) dg dt (rdX x) vs env m Q := by
  obtain ⟨xe, hs, q⟩ := h
  refine ⟨xe, hs, (Tr.wp_bind.mp q).mono fun ps m1 q => ?_⟩
  obtain ⟨h1, q⟩ := Tr.wp_ok q
  refine ⟨by rw [PDs_len]; exact of_decide_eq_true h1, fun i acc mm => (xLcXL g t x (wipeX xe vs) (ps.drop i)).wp mm fun ys m2 => Q (.lst (acc ++ PDs ys)) m2, ?_, fun i d acc mm hd hp => ?_, fun acc mm hp => ?_⟩
  · refine (Tr.wp_bind.mp q).mono fun ys m2 q => ?_
    have h3 : Q (Pv.lst ys).D m2 := q
    rw [Pv.D] at h3; exact h3
  · rw [PDs_map, List.getElem?_map] at hd
    cases e : ps[i]? with
    | none => rw [e] at hd; cases hd
    | some p =>
      rw [e] at hd
      cases hd
      obtain ⟨hi, e2⟩ := List.getElem?_eq_some_iff.mp e
      rw [List.drop_eq_getElem_cons hi, e2, xLcXL] at hp
      split at hp
      · next xe2 eg =>
        refine hg _ _ _ _ _ (hs.wipe vs) eg fun env2 hs2 => ht _ _ _ ⟨xe2, hs2, (Tr.wp_bind.mp hp).mono fun b m2 q => ?_⟩
        cases b with
        | true =>
          rw [if_pos rfl] at q ⊢
          refine ⟨xe2, hs2, (Tr.wp_bind.mp q).mono fun y m3 q => ?_⟩
          dsimp only
          refine (Tr.wp_bind.mp q).mono fun ys m4 q => ?_
          have h3 : Q (.lst (acc ++ PDs (y :: ys))) m4 := q
          rw [PDs] at h3
          rw [List.append_assoc]; exact h3
        | false =>
          rw [if_neg Bool.false_ne_true] at q ⊢
          exact q
      · exact hp.elim
  · dsimp only at hp
    rw [PDs_len, List.drop_length] at hp
    have h3 : Q (.lst (acc ++ PDs [])) mm := hp
    rw [PDs, List.append_nil] at h3; exact h3
section
variable {X : Cx} {e : Expr} {tg : Expr} {st : Stmt} {sts : List Stmt} {sp : DSp} {g : GA}
theorem xlcX {it : XXA} {dg : DG} {g : XGM} {dt : DT} {t : XXT} {x : XX} {vs : List Nat} (hg : GE dg g) (ht : XTOk dt t) (h : De X e (dLc (rdXI it) dg dt (rdX x) vs)) : De X e (rdX (xLcX it g t x vs)) := h.weak fun env m Q q => lcX_of hg ht q
theorem xssetlcX {i : Nat} {it : XXA} {dg : DG} {g : XGM} {dt : DT} {t : XXT} {x : XX} {vs : List Nat} (hg : GE dg g) (ht : XTOk dt t) (h : Dm1 X st (dmL (dSet i (dLc (rdXI it) dg dt (rdX x) vs)))) : Dm1 X st (rdM (xsSet i (xLcX it g t x vs))) := h.weak fun nw nx rt env m ⟨xe, hr, q⟩ =>
  lcX_of (Q := fun d m1 => nx (env.set i (some d)) m1) hg ht ⟨xe, hr.e, (Tr.wp_bind.mp q).mono fun p m1 q => q _ (hr.plain i p)⟩
def xItRX (x : XX) : XXA := fun xe => (x xe).bind fun p => match p with
  | .int (.ofNat n) => .ok (decide (n < 2 ^ 62)) (.ret (natsP n))
  | _ => .fail
theorem xitRX {x : XX} (h : Di X tg e (fun env m Q => rdX x env m fun d m1 => ∃ n : Nat, d = .int (n : Int) ∧ n < 2 ^ 62 ∧ Q (nats n) m1)) : Di X tg e (rdXI (xItRX x)) := h.weak fun env m Q ⟨pe, hs, q⟩ => by
  refine ⟨pe, hs, (Tr.wp_bind.mp q).mono fun p m1 q => ?_⟩
  cases p with
  | int i =>
    cases i with
    | ofNat n =>
      obtain ⟨h1, q⟩ := Tr.wp_ok q
      refine ⟨n, by rw [Pv.D]; rfl, of_decide_eq_true h1, ?_⟩
      have h3 : Q (PDs (natsP n)) m1 := q
      rw [natsP_D] at h3; exact h3
    | negSucc n => exact q.elim
  | _ => exact q.elim
theorem xspar3oA {i j k : Nat} {x y : XX} {u : XS} (h : DmT X sts (dmAsg3O (rdX x) (rdX y) (dgTup3 i j k) (rdM u))) : DmT X sts (rdM (xsPar3O i j k x y u)) := h.weak fun nw nx rt env m ⟨xe, hr, q⟩ =>
  ⟨xe, hr.e, (Tr.wp_bind.mp q).mono fun d m1 q => ⟨xe, hr.e, (Tr.wp_bind.mp q).mono fun d2 m2 q => fun p hp hc => ⟨d.D, d2.D, _, rfl, _, ((hr.plain i d).plain j d2).fresh k [] hp (plain_notin (plain_notin (not_cell hc))), q⟩⟩⟩
theorem xspar2bA {i j : Nat} {x : XX} {u : XS} (h : DmT X sts (dmAsg2B (rdX x) (dgTup2 i j) (rdM u))) : DmT X sts (rdM (xsPar2B i j x u)) := h.weak fun nw nx rt env m ⟨xe, hr, q⟩ =>
  ⟨xe, hr.e, (Tr.wp_bind.mp q).mono fun d m1 q => fun p hp hc => ⟨d.D, _, rfl, _, (hr.plain i d).fresh j [] hp (plain_notin (not_cell hc)), q⟩⟩
/-! arguments by names, in another order -/
def rp {α : Type} (perm : List Nat) (l : List α) : List α := perm.filterMap fun i => l[i]?
theorem rp_D (n : Nat) (perm : List Nat) : ∀ ps : List Pv, ps.length = n → rp perm (PDs ps) = PDs (rp perm ps) := fun ps _ => by
  unfold rp
  rw [PDs_map, PDs_map, List.map_filterMap]
  congr 1
  funext i
  rw [List.getElem?_map]
theorem gd_last : ∀ (p : Pv) (ps : List Pv), ps.length = 1 → p.D :: PDs ps = PDs (p :: ps) := fun p ps _ => by rw [PDs]
theorem hgLast : ∀ (w : W) (H : Hp) (v : V) (d : D) (vs : List V) (ds : List D), vs.length = 1 → Hd w H v d → Hds w H vs ds → Hds w H (apV [v] vs) (d :: ds) := fun w H v d vs ds _ h hs => .cons h hs
theorem hds_rp {w : W} {H : Hp} {vs : List V} {ds : List D} (h : Hds w H vs ds) : ∀ perm : List Nat, Hds w H (rp perm vs) (rp perm ds)
  | [] => .nil
  | i :: r => by
    have ih := hds_rp h r
    unfold rp at ih ⊢
    cases e : ds[i]? with
    | none =>
      have e2 : vs[i]? = none := by rw [List.getElem?_eq_none_iff] at e ⊢; rw [h.len]; exact e
      rw [List.filterMap_cons_none e, List.filterMap_cons_none e2]; exact ih
    | some d =>
      obtain ⟨v, e2, hv⟩ := h.get e
      rw [List.filterMap_cons_some e, List.filterMap_cons_some e2]; exact .cons hv ih
theorem hg_rp (n : Nat) (perm : List Nat) : ∀ (w : W) (H : Hp) (vs : List V) (ds : List D), vs.length = n → Hds w H vs ds → Hds w H (rp perm vs) (rp perm ds) := fun w H vs ds _ h => hds_rp h perm
theorem vals_rp {vs : List V} {us : List Value} (h : Vals vs us) : ∀ perm : List Nat, Vals (rp perm vs) (rp perm us) := fun perm => by
  have key : ∀ i : Nat, (∃ v u, vs[i]? = some v ∧ us[i]? = some u ∧ RelV v u) ∨ (vs[i]? = none ∧ us[i]? = none) := by
    intro i
    induction h generalizing i with
    | nil => exact .inr ⟨rfl, rfl⟩
    | cons a r ih =>
      cases i with
      | zero => exact .inl ⟨_, _, rfl, rfl, a⟩
      | succ i => simpa using ih i
  induction perm with
  | nil => exact .nil
  | cons i r ih =>
    unfold rp at ih ⊢
    rcases key i with ⟨v, u, e1, e2, rv⟩ | ⟨e1, e2⟩
    · rw [List.filterMap_cons_some e1, List.filterMap_cons_some e2]; exact .cons rv ih
    · rw [List.filterMap_cons_none e1, List.filterMap_cons_none e2]; exact ih
/-! own operators -/
def isObj : Pv → Bool
  | .obj _ _ => true
  | _ => false
def gObj (g : GA) : X2 := fun p q => match p, q with
  | .obj 1 l, .obj j r => .ok (decide (j = 0) || decide (j = 1)) ((g [.obj 1 l, .obj j r]).bind fun z => .ok (isObj z) (.ret z))
  | _, _ => .fail
theorem isObj_D {z : Pv} (h : isObj z = true) : ∃ k t, z.D = .obj k t := by cases z <;> first | exact ⟨_, _, by rw [Pv.D]⟩ | cases h
theorem ox_shX {g : GA} : OpX (dShO 1 0 (spX g)) (gObj g) := fun p q m Q h => by
  unfold gObj at h
  split at h
  · next l j r =>
    obtain ⟨h1, h⟩ := Tr.wp_ok h
    refine ⟨PDs l, j, PDs r, by rw [Pv.D], by simpa [or_comm] using h1, by rw [Pv.D], [.obj 1 l, .obj j r], by rw [PDs, PDs, PDs], (Tr.wp_bind.mp h).mono fun z m1 h => ?_⟩
    obtain ⟨h2, h⟩ := Tr.wp_ok h
    exact ⟨isObj_D h2, h⟩
  · exact h.elim
def gMulObj (g : GA) : X2 := fun p q => match p, q with
  | .obj 1 l, .int i => (g [.obj 1 l, .int i]).bind fun z => .ok (isObj z) (.ret z)
  | _, _ => .fail
theorem ox_mulX {g : GA} : OpX (dMulO 1 (spX g)) (gMulObj g) := fun p q m Q h => by
  unfold gMulObj at h
  split at h
  · next l i =>
    refine ⟨PDs l, i, by rw [Pv.D], by rw [Pv.D], [.obj 1 l, .int i], by rw [PDs, PDs, PDs], (Tr.wp_bind.mp h).mono fun z m1 h => ?_⟩
    obtain ⟨h2, h⟩ := Tr.wp_ok h
    exact ⟨isObj_D h2, h⟩
  · exact h.elim
def gEqObj (neg : Bool) (g : GA) : X2 := fun p q => match p with
  | .obj 1 l => .ok (match q with
    | .obj j _ => decide (j = 0) || decide (j = 1)
    | q => noUrn q.D) ((g [.obj 1 l, q]).bind fun z => (asB z).bind fun b => .ret (.bl (if neg then !b else b)))
  | _ => .fail
theorem ox_eqX {g : GA} {neg : Bool} {K : PySem.W.Frag} (h0 : PySem.W.notFirst K (Cl.c 1).1 (.ref (Cl.c 0).1) = true) (h1 : PySem.W.notFirst K (Cl.c 1).1 (.ref (Cl.c 1).1) = true) : OpX (dEqO 1 neg K (spX g)) (gEqObj neg g) := fun p q m Q h => by
  unfold gEqObj at h
  split at h
  · next l =>
    obtain ⟨h2, h⟩ := Tr.wp_ok h
    refine ⟨PDs l, by rw [Pv.D], ?_, [.obj 1 l, q], by rw [PDs, PDs, PDs], (Tr.wp_bind.mp h).mono fun z m1 h => ?_⟩
    · cases q with
      | obj j r =>
        refine .inr ⟨j, PDs r, by rw [Pv.D], ?_⟩
        have h2 : (decide (j = 0) || decide (j = 1)) = true := h2
        rw [Bool.or_eq_true, decide_eq_true_eq, decide_eq_true_eq] at h2
        rcases h2 with rfl | rfl
        · exact h0
        · exact h1
      | _ => exact .inl h2
    · obtain ⟨b, e, h⟩ := asB_wp (Tr.wp_bind.mp h)
      exact ⟨b, e, h⟩
  · exact h.elim
/-- what an __init__ leaves in the fields -/
def inX (g : GI) : DIn := fun ds m Q => ∃ ps, ds = PDs ps ∧ (g ps).wp m fun fs m1 => Q (PDs fs) m1
theorem inX_in {g : GI} : InX (inX g) g := fun ps m Q h => ⟨ps, rfl, h⟩
def vConB : Pv := .tup [.tup [.tup [], .int 0]]
end
end TC
namespace TC
open PySem PySem.Spec PyProof.Rows L2
variable [Cl]
/-! ### steps -/
inductive Stp where
  | touch (t : Str) | forget (t : Str) | cap (n : Int)
def Stp.kind : Stp → Str
  | .touch _ => "touch" | .forget _ => "forget" | .cap _ => "cap"
def Stp.what : Stp → Pv
  | .touch t => .str t | .forget t => .str t | .cap n => .int n
/-- what a step makes of a row -/
def Stp.go : Stp → List Str → List Str
  | .touch t, l => t :: l.filter (fun x => !decide (x = t))
  | .forget t, l => l.filter (fun x => !decide (x = t))
  | .cap n, l => l.take n.toNat
def goes (L : List Stp) (l : List Str) : List Str := L.foldl (fun r s => s.go r) l
/-- the step as a pair -/
def Stp.pr (s : Stp) : Pv := .tup [.str s.kind, s.what]
/-- the step as an object -/
def Stp.ob (s : Stp) : Pv := .obj 0 [.str s.kind, s.what]
theorem go_len (s : Stp) (l : List Str) : (s.go l).length ≤ l.length + 1 := by
  cases s with
  | touch t => exact Nat.succ_le_succ (List.length_filter_le _ _)
  | forget t => exact Nat.le_succ_of_le (List.length_filter_le _ _)
  | cap n => exact Nat.le_succ_of_le (by show (l.take _).length ≤ _; rw [List.length_take]; omega)
theorem goes_len : ∀ (L : List Stp) (l : List Str), (goes L l).length ≤ l.length + L.length
  | [], l => Nat.le_refl _
  | s :: L, l => by
    have h1 := goes_len L (s.go l)
    have h2 := go_len s l
    show (goes L (s.go l)).length ≤ _
    rw [List.length_cons]
    omega
theorem goes_app (L M : List Stp) (l : List Str) : goes (L ++ M) l = goes M (goes L l) := List.foldl_append ..
/-! ### the names of steps -/
def nmS : List Str → List Stp → List Str
  | ns, [] => ns
  | ns, .touch t :: L => nmS (insS t ns) L
  | ns, .forget t :: L => nmS (insS t ns) L
  | ns, .cap _ :: L => nmS ns L
theorem setS_nm : ∀ {L : List Stp} {ns : List Str}, SetS ns → SetS (nmS ns L)
  | [], _, h => h
  | .touch t :: L, _, h => setS_nm (L := L) (setS_ins h)
  | .forget t :: L, _, h => setS_nm (L := L) (setS_ins h)
  | .cap _ :: L, _, h => setS_nm (L := L) h
theorem nmS_app : ∀ {L M : List Stp} {ns : List Str}, nmS ns (L ++ M) = nmS (nmS ns L) M
  | [], _, _ => rfl
  | .touch t :: L, M, ns => nmS_app (L := L)
  | .forget t :: L, M, ns => nmS_app (L := L)
  | .cap _ :: L, M, ns => nmS_app (L := L)
/-! ### bounds -/
abbrev Bd := List Str × Int
/-- the bounds of the caps, one behind another -/
def capB : List Str → List Str → List Stp → List Bd
  | _, _, [] => []
  | ns, row, .cap n :: L => (ns, n - (row.length : Int)) :: capB ns (row.take n.toNat) L
  | ns, row, .touch t :: L => capB (insS t ns) ((Stp.touch t).go row) L
  | ns, row, .forget t :: L => capB (insS t ns) ((Stp.forget t).go row) L
/-- the first loop: numbers that fall -/
def fallS (acc : List Bd) (b : Bd) : List Bd := match acc.getLast? with
  | none => acc ++ [b]
  | some c => if b.2 < c.2 then acc ++ [b] else acc
def fallB (bs : List Bd) : List Bd := bs.foldl fallS []
/-- the second loop -/
def keptS (acc : List Bd) (b : Bd) : List Bd := match acc.getLast? with
  | none => acc ++ [b]
  | some c => if b.2 + (b.1.length : Int) < c.2 + (c.1.length : Int) then acc ++ [b] else acc
def tightB (bs : List Bd) : List Bd := ((fallB bs).reverse.foldl keptS []).reverse
/-- a FORM -/
structure Form where
  front : List Str
  gone : List Str
  bds : List Bd
deriving DecidableEq
def conB : List Bd := [([], 0)]
def shape (L : List Stp) : Form :=
  let f := goes L []
  let b := capB [] [] L
  if b.any (fun x => decide (x.2 < 1)) = true then ⟨f, [], conB⟩ else ⟨f, (nmS [] L).filter (fun x => !decide (x ∈ f)), tightB b⟩
/-! ### the plain steps -/
def conSteps (row : List Str) : List Stp := if row = [] then [.touch "a", .cap 1, .forget "a"] else row.reverse.map .touch ++ [.cap (row.length : Int)]
def plainC : List Str → List Bd → List Stp
  | _, [] => []
  | lost, (ns, n) :: bs =>
    let further := ns.filter (fun x => !decide (x ∈ lost))
    further.map .forget ++ (.cap n :: plainC (lost ++ further) bs)
def lostC : List Str → List Bd → List Str
  | lost, [] => lost
  | lost, (ns, _) :: bs => lostC (lost ++ ns.filter (fun x => !decide (x ∈ lost))) bs
def plainL (F : Form) : List Stp := if F.bds = conB then conSteps F.front else
  plainC [] F.bds ++ ((F.gone.filter fun x => !decide (x ∈ lostC [] F.bds)).map .forget ++ F.front.reverse.map .touch)
def bnd (b : Bd) : Pv := .tup [.tup (b.1.map Pv.str), .int b.2]
def frm (F : Form) : Pv := .tup [.tup (F.front.map Pv.str), .tup (F.gone.map Pv.str), .tup (F.bds.map bnd)]
def rulT (L : List Stp) : Pv := .tup (L.map Stp.ob)
def rul (L : List Stp) : Pv := .obj 1 [rulT L]
end TC
namespace TC
open PySem PySem.Spec PyProof.Rows L2
variable [Cl]
/-! ### the names and the limits of a line -/
def Stp.nms : Stp → List Str
  | .touch t => [t]
  | .forget t => [t]
  | .cap _ => []
def nms (L : List Stp) : List Str := L.flatMap Stp.nms
abbrev Lim := List Str × Int
def lims : List Str → List Str → List Stp → Option (List Lim)
  | _, _, [] => some []
  | h, N, .cap n :: L => if n ≤ (h.length : Int) then none else (lims (h.take n.toNat) N L).map ((N, n - (h.length : Int)) :: ·)
  | h, N, .touch a :: L => lims ((Stp.touch a).go h) (N ++ [a]) L
  | h, N, .forget a :: L => lims ((Stp.forget a).go h) (N ++ [a]) L
/-- how many of these stand outside -/
def cntN (N : List Str) (q : List Str) : Nat := (q.filter (fun x => !decide (x ∈ N))).length
def okL (f : List Lim) (q : List Str) : Bool := f.all fun p => decide ((cntN p.1 q : Int) ≤ p.2)
def keeps (f : List Lim) (N : List Str) : List Str → List Str → List Str
  | _, [] => []
  | pre, x :: xs => if (!decide (x ∈ N) && okL f (pre ++ [x])) = true then x :: keeps f N (pre ++ [x]) xs else keeps f N (pre ++ [x]) xs
theorem cnt_mono (N q r : List Str) : cntN N q ≤ cntN N (q ++ r) := by
  unfold cntN; rw [List.filter_append, List.length_append]; omega
theorem cnt_one (N q : List Str) (x : Str) : cntN N (q ++ [x]) = cntN N q + (if x ∈ N then 0 else 1) := by
  unfold cntN; rw [List.filter_append, List.length_append]
  by_cases h : x ∈ N <;> simp [h]
theorem okL_down {f : List Lim} {q r : List Str} (h : okL f (q ++ r) = true) : okL f q = true := by
  unfold okL at h ⊢
  rw [List.all_eq_true] at h ⊢
  intro p hp
  have h1 := of_decide_eq_true (h p hp)
  have h2 := cnt_mono p.1 q r
  exact decide_eq_true (by omega)
theorem okL_take {g : List Lim} {q : List Str} (h : okL g q = true) (j : Nat) : okL (g.take j) q = true := by
  unfold okL at h ⊢
  rw [List.all_eq_true] at h ⊢
  exact fun p hp => h p (List.mem_of_mem_take hp)
theorem keeps_none {f : List Lim} {N : List Str} : ∀ {xs pre : List Str}, okL f pre = false → keeps f N pre xs = []
  | [], pre, _ => rfl
  | x :: xs, pre, h => by
    have h2 : okL f (pre ++ [x]) = false := by
      cases e : okL f (pre ++ [x]) with
      | false => rfl
      | true => rw [okL_down e] at h; cases h
    rw [keeps, h2, Bool.and_false, if_neg Bool.false_ne_true]
    exact keeps_none h2
theorem keeps_all {row : List Str} : ∀ {pre : List Str}, keeps [] [] pre row = row := by
  induction row with
  | nil => intro pre; rfl
  | cons x xs ih => intro pre; rw [keeps, if_pos (by simp [okL]), ih]
theorem keeps_filter {f : List Lim} {N : List Str} {a : Str} : ∀ {xs pre : List Str}, (keeps f N pre xs).filter (fun x => !decide (x = a)) = keeps f (N ++ [a]) pre xs
  | [], pre => rfl
  | x :: xs, pre => by
    have ih := keeps_filter (f := f) (N := N) (a := a) (xs := xs) (pre := pre ++ [x])
    rw [keeps, keeps]
    by_cases h1 : (!decide (x ∈ N) && okL f (pre ++ [x])) = true
    · rw [if_pos h1]
      simp only [Bool.and_eq_true, Bool.not_eq_true', decide_eq_false_iff_not] at h1
      by_cases h2 : x = a
      · rw [List.filter_cons_of_neg (by simp [h2]), if_neg (by simp [h2]), ih]
      · rw [List.filter_cons_of_pos (by simp [h2]), if_pos (by simp [h1.1, h1.2, h2]), ih]
    · rw [if_neg h1, ih, if_neg]
      intro z
      apply h1
      simp only [Bool.and_eq_true, Bool.not_eq_true', decide_eq_false_iff_not, List.mem_append] at z ⊢
      exact ⟨fun q => z.1 (.inl q), z.2⟩
theorem keeps_take {f : List Lim} {N : List Str} {j : Nat} : ∀ {xs pre : List Str}, (keeps f N pre xs).take (j - cntN N pre) = keeps (f ++ [(N, (j : Int))]) N pre xs
  | [], pre => by simp [keeps]
  | x :: xs, pre => by
    have ih := keeps_take (f := f) (N := N) (j := j) (xs := xs) (pre := pre ++ [x])
    have hc := cnt_one N pre x
    have ho : okL (f ++ [(N, (j : Int))]) (pre ++ [x]) = (okL f (pre ++ [x]) && decide ((cntN N (pre ++ [x]) : Int) ≤ j)) := by
      unfold okL; rw [List.all_append]; simp
    rw [keeps, keeps, ho]
    by_cases hx : x ∈ N
    · rw [if_pos hx, Nat.add_zero] at hc
      rw [if_neg (by simp [hx]), if_neg (by simp [hx]), ← ih, hc]
    · rw [if_neg hx] at hc
      cases e : okL f (pre ++ [x]) with
      | false =>
        rw [if_neg (by simp), if_neg (by simp), ← ih, keeps_none e]; simp
      | true =>
        rw [if_pos (by simp [hx])]
        by_cases hj : cntN N pre < j
        · rw [if_pos (by simp [hx]; omega), ← ih, hc]
          obtain ⟨i, hi⟩ : ∃ i, j - cntN N pre = i + 1 := ⟨j - cntN N pre - 1, by omega⟩
          rw [hi, List.take_succ_cons]
          congr 2
          omega
        · rw [if_neg (by simp [hx]; omega), ← ih, hc]
          rw [show j - cntN N pre = 0 by omega, show j - (cntN N pre + 1) = 0 by omega]
          simp
theorem go_app_one (s : Stp) (h t : List Str) (hs : ∀ n, s ≠ .cap n) : s.go (h ++ t) = s.go h ++ t.filter (fun x => !s.nms.contains x) := by
  cases s with
  | touch a =>
    show a :: (h ++ t).filter _ = (a :: h.filter _) ++ _
    rw [List.filter_append, List.cons_append]
    congr 2
    exact List.filter_congr fun x _ => by simp [Stp.nms]
  | forget a =>
    show (h ++ t).filter _ = h.filter _ ++ _
    rw [List.filter_append]
    congr 1
    exact List.filter_congr fun x _ => by simp [Stp.nms]
  | cap n => exact absurd rfl (hs n)
theorem shown_none : ∀ {L : List Stp} {h N t : List Str}, (∀ n, Stp.cap n ∈ L → 1 ≤ n) → lims h N L = none → goes L (h ++ t) = goes L h
  | [], h, N, t, _, e => by cases e
  | .cap n :: L, h, N, t, hc, e => by
    have hn := hc n (List.mem_cons_self ..)
    rw [lims] at e
    show goes L ((h ++ t).take n.toNat) = goes L (h.take n.toNat)
    by_cases hk : n ≤ (h.length : Int)
    · rw [List.take_append_of_le_length (by omega)]
    · rw [if_neg hk] at e
      rw [List.take_append]
      refine shown_none (fun n hn => hc n (List.mem_cons_of_mem _ hn)) ?_ (N := N)
      cases e2 : lims (h.take n.toNat) N L with
      | none => rfl
      | some g => rw [e2] at e; cases e
  | .touch a :: L, h, N, t, hc, e => by
    show goes L ((Stp.touch a).go (h ++ t)) = goes L ((Stp.touch a).go h)
    rw [go_app_one _ h t (fun n z => by cases z)]
    exact shown_none (fun n hn => hc n (List.mem_cons_of_mem _ hn)) (N := N ++ [a]) e
  | .forget a :: L, h, N, t, hc, e => by
    show goes L ((Stp.forget a).go (h ++ t)) = goes L ((Stp.forget a).go h)
    rw [go_app_one _ h t (fun n z => by cases z)]
    exact shown_none (fun n hn => hc n (List.mem_cons_of_mem _ hn)) (N := N ++ [a]) e
theorem shown_some {row : List Str} : ∀ {L : List Stp} {h N : List Str} {f g : List Lim}, (∀ n, Stp.cap n ∈ L → 1 ≤ n) → lims h N L = some g → goes L (h ++ keeps f N [] row) = goes L h ++ keeps (f ++ g) (N ++ nms L) [] row
  | [], h, N, f, g, _, e => by
    cases e
    show h ++ _ = h ++ _
    simp [nms]
  | .cap n :: L, h, N, f, g, hc, e => by
    have hn := hc n (List.mem_cons_self ..)
    rw [lims] at e
    show goes L ((h ++ keeps f N [] row).take n.toNat) = goes L (h.take n.toNat) ++ _
    by_cases hk : n ≤ (h.length : Int)
    · rw [if_pos hk] at e; cases e
    · rw [if_neg hk] at e
      cases e2 : lims (h.take n.toNat) N L with
      | none => rw [e2] at e; cases e
      | some g2 =>
        rw [e2] at e
        cases e
        have ht := keeps_take (f := f) (N := N) (j := n.toNat - h.length) (xs := row) (pre := [])
        rw [show cntN N [] = 0 from rfl, Nat.sub_zero] at ht
        have hj : ((n.toNat - h.length : Nat) : Int) = n - (h.length : Int) := by omega
        rw [hj] at ht
        rw [List.take_append, ht]
        have ih := shown_some (f := f ++ [(N, n - (h.length : Int))]) (row := row) (fun n hn => hc n (List.mem_cons_of_mem _ hn)) e2
        rw [ih, List.append_assoc]
        rfl
  | .touch a :: L, h, N, f, g, hc, e => by
    show goes L ((Stp.touch a).go (h ++ keeps f N [] row)) = goes L ((Stp.touch a).go h) ++ _
    rw [go_app_one _ h _ (fun n z => by cases z)]
    have e1 : (keeps f N [] row).filter (fun x => !(Stp.touch a).nms.contains x) = keeps f (N ++ [a]) [] row := by
      rw [← keeps_filter]
      exact List.filter_congr fun x _ => by simp [Stp.nms]
    rw [e1, shown_some (fun n hn => hc n (List.mem_cons_of_mem _ hn)) e, List.append_assoc]
    rfl
  | .forget a :: L, h, N, f, g, hc, e => by
    show goes L ((Stp.forget a).go (h ++ keeps f N [] row)) = goes L ((Stp.forget a).go h) ++ _
    rw [go_app_one _ h _ (fun n z => by cases z)]
    have e1 : (keeps f N [] row).filter (fun x => !(Stp.forget a).nms.contains x) = keeps f (N ++ [a]) [] row := by
      rw [← keeps_filter]
      exact List.filter_congr fun x _ => by simp [Stp.nms]
    rw [e1, shown_some (fun n hn => hc n (List.mem_cons_of_mem _ hn)) e, List.append_assoc]
    rfl
theorem keeps_le (f : List Lim) (N : List Str) : ∀ xs pre : List Str, (keeps f N pre xs).length ≤ xs.length
  | [], _ => Nat.le_refl _
  | x :: xs, pre => by
    have ih := keeps_le f N xs (pre ++ [x])
    rw [keeps]
    split
    · rw [List.length_cons, List.length_cons]; omega
    · rw [List.length_cons]; omega
/-- those that are kept, by their places -/
def pick (f : List Lim) (N row : List Str) : List Nat := ((List.range row.length).filter fun k => !decide (row.getD k Str.empty ∈ N)).filter fun k => okL f (row.take (k + 1))
theorem keeps_pick {f : List Lim} {N : List Str} : ∀ (xs pre : List Str), keeps f N pre xs = ((((List.range' pre.length xs.length).filter fun k => !decide ((pre ++ xs).getD k Str.empty ∈ N)).filter fun k => okL f ((pre ++ xs).take (k + 1))).map fun k => (pre ++ xs).getD k Str.empty)
  | [], pre => by simp [keeps]
  | x :: xs, pre => by
    have ih := keeps_pick (f := f) (N := N) xs (pre ++ [x])
    have ea : pre ++ [x] ++ xs = pre ++ x :: xs := by simp
    rw [ea, List.length_append, List.length_singleton] at ih
    have e1 : (pre ++ x :: xs).getD pre.length Str.empty = x := by simp [List.getD]
    have e2 : (pre ++ x :: xs).take (pre.length + 1) = pre ++ [x] := by
      rw [List.take_append, List.take_of_length_le (by omega)]; simp
    rw [keeps, List.length_cons, List.range'_succ, ih]
    by_cases h1 : x ∈ N
    · rw [if_neg (by simp [h1]), List.filter_cons_of_neg (by rw [e1]; simp [h1])]
    · rw [List.filter_cons_of_pos (by rw [e1]; simp [h1])]
      cases h2 : okL f (pre ++ [x]) with
      | false => rw [if_neg (by simp), List.filter_cons_of_neg (by rw [e2, h2]; exact Bool.false_ne_true)]
      | true => rw [if_pos (by simp [h1]), List.filter_cons_of_pos (by rw [e2, h2]), List.map_cons, e1]
theorem keeps_pick0 (f : List Lim) (N row : List Str) : keeps f N [] row = (pick f N row).map fun k => row.getD k Str.empty := by
  have := keeps_pick (f := f) (N := N) row []
  rw [this]
  unfold pick
  rw [List.range_eq_range']
  rfl
/-- what a line shows of a row -/
def shownL (L : List Stp) (row : List Str) : List Str := match lims [] [] L with
  | none => goes L []
  | some g => goes L [] ++ keeps g (nms L) [] row
theorem shown_goes {L : List Stp} (hc : ∀ n, Stp.cap n ∈ L → 1 ≤ n) (row : List Str) : goes L row = shownL L row := by
  unfold shownL
  cases e : lims [] [] L with
  | none => exact shown_none (h := []) hc e
  | some g =>
    have := shown_some (row := row) (f := []) (h := []) hc e
    rw [keeps_all, List.nil_append, List.nil_append, List.nil_append] at this
    exact this

end TC
namespace TC
open PySem PySem.Spec PyProof.Rows L2
variable [Cl]
/-! ### lists without doubles -/
theorem nd_len : ∀ {l r : List Str}, l.Nodup → (∀ x ∈ l, x ∈ r) → l.length ≤ r.length
  | [], r, _, _ => Nat.zero_le _
  | a :: l, r, nd, h => by
    have nd1 := List.nodup_cons.mp nd
    have ha : a ∈ r := h a (List.mem_cons_self ..)
    have h2 : ∀ x ∈ l, x ∈ r.erase a := fun x hx => by
      have ne : x ≠ a := fun e => nd1.1 (e ▸ hx)
      exact (List.mem_erase_of_ne ne).mpr (h x (List.mem_cons_of_mem _ hx))
    have := nd_len nd1.2 h2
    rw [List.length_erase_of_mem ha] at this
    have hp : 0 < r.length := List.length_pos_of_mem ha
    rw [List.length_cons]
    omega
/-- how many of these the others do not have -/
def lack (a b : List Str) : Nat := cntN b a
theorem lack_def (a b : List Str) : lack a b = (a.filter (fun x => !decide (x ∈ b))).length := rfl
theorem lack_sub {a b : List Str} (h : ∀ x ∈ a, x ∈ b) : lack a b = 0 := by
  rw [lack_def, List.length_eq_zero_iff, List.filter_eq_nil_iff]
  intro x hx
  simp [h x hx]
theorem lack_zero {a b : List Str} (h : lack a b = 0) : ∀ x ∈ a, x ∈ b := by
  rw [lack_def, List.length_eq_zero_iff, List.filter_eq_nil_iff] at h
  intro x hx
  have := h x hx
  simpa using this
theorem len_split (a b : List Str) : a.length = (a.filter (fun x => decide (x ∈ b))).length + lack a b := by
  rw [lack_def]
  induction a with
  | nil => rfl
  | cons x r ih =>
    by_cases h : x ∈ b
    · rw [List.filter_cons_of_pos (by simp [h]), List.filter_cons_of_neg (by simp [h]), List.length_cons, List.length_cons]; omega
    · rw [List.filter_cons_of_neg (by simp [h]), List.filter_cons_of_pos (by simp [h]), List.length_cons, List.length_cons]; omega
theorem lack_len {a b : List Str} (na : a.Nodup) (nb : b.Nodup) (h : ∀ x ∈ b, x ∈ a) : lack a b + b.length = a.length := by
  have e := len_split a b
  have h1 : (a.filter (fun x => decide (x ∈ b))).length ≤ b.length := nd_len (na.filter _) fun x hx => by
    have := (List.mem_filter.mp hx).2; simpa using this
  have h2 : b.length ≤ (a.filter (fun x => decide (x ∈ b))).length := nd_len nb fun x hx => List.mem_filter.mpr ⟨h x hx, by simp [hx]⟩
  omega
theorem cnt_fol {b c q : List Str} (nq : q.Nodup) : cntN b q ≤ cntN c q + lack c b := by
  have e : cntN b q = ((q.filter (fun x => !decide (x ∈ b))).filter (fun x => decide (x ∈ c))).length + lack (q.filter (fun x => !decide (x ∈ b))) c := by
    have := len_split (q.filter (fun x => !decide (x ∈ b))) c
    exact this
  have h1 : ((q.filter (fun x => !decide (x ∈ b))).filter (fun x => decide (x ∈ c))).length ≤ lack c b := by
    rw [lack_def]
    refine nd_len ((nq.filter _).filter _) fun x hx => ?_
    have h := List.mem_filter.mp hx
    have h' := List.mem_filter.mp h.1
    exact List.mem_filter.mpr ⟨by simpa using h.2, h'.2⟩
  have h2 : lack (q.filter (fun x => !decide (x ∈ b))) c ≤ cntN c q := by
    rw [lack_def]
    unfold cntN
    rw [List.filter_filter]
    refine nd_len (nq.filter _) fun x hx => ?_
    have h := List.mem_filter.mp hx
    simp only [Bool.and_eq_true] at h
    exact List.mem_filter.mpr ⟨h.1, h.2.1⟩
  omega
theorem lack_tri {a b c : List Str} (na : a.Nodup) : lack a c ≤ lack a b + lack b c := cnt_fol na
/-! ### bounds that follow -/
/-- b follows from c -/
def fol (b c : Bd) : Prop := c.2 + (lack c.1 b.1 : Int) ≤ b.2
theorem fol_refl (b : Bd) : fol b b := by
  unfold fol; rw [lack_sub fun x h => h]; simp
theorem fol_trans {a b c : Bd} (nc : c.1.Nodup) (h : fol a b) (g : fol b c) : fol a c := by
  unfold fol at h g ⊢
  have := lack_tri (b := b.1) (c := a.1) nc
  omega
theorem fol_keep {b c : Bd} {q : List Str} (nq : q.Nodup) (h : fol b c) (k : (cntN c.1 q : Int) ≤ c.2) : (cntN b.1 q : Int) ≤ b.2 := by
  unfold fol at h
  have := cnt_fol (b := b.1) (c := c.1) nq
  omega
theorem fol_anti {b c : Bd} (sb : SetS b.1) (sc : SetS c.1) (h : fol b c) (g : fol c b) : b = c := by
  unfold fol at h g
  have h1 : lack c.1 b.1 = 0 := by omega
  have h2 : lack b.1 c.1 = 0 := by omega
  have e1 : b.1 = c.1 := setS_ext sb sc fun x => ⟨lack_zero h2 x, lack_zero h1 x⟩
  have e2 : b.2 = c.2 := by omega
  exact Prod.ext e1 e2
/-- bounds as caps make them: their sets grow -/
structure Nest (bs : List Bd) : Prop where
  set : ∀ b ∈ bs, SetS b.1
  up : bs.Pairwise fun b c => ∀ x ∈ b.1, x ∈ c.1
/-- a CHAIN -/
structure Chain (c : List Bd) : Prop where
  set : ∀ b ∈ c, SetS b.1
  up : c.Pairwise fun a b => (∀ x ∈ a.1, x ∈ b.1) ∧ b.2 < a.2 ∧ a.2 + (a.1.length : Int) < b.2 + (b.1.length : Int)
theorem last_rel {α : Type} {R : α → α → Prop} {l : List α} {c : α} (h : l.getLast? = some c) (p : l.Pairwise R) : c ∈ l ∧ ∀ a ∈ l, a = c ∨ R a c := by
  obtain ⟨ys, rfl⟩ := List.getLast?_eq_some_iff.mp h
  refine ⟨by simp, fun a ha => ?_⟩
  rcases List.mem_append.mp ha with q | q
  · exact .inr ((List.pairwise_append.mp p).2.2 a q c (by simp))
  · exact .inl (by simpa using q)
structure FallI (done acc : List Bd) : Prop where
  sub : ∀ c ∈ acc, c ∈ done
  pw : acc.Pairwise fun a b => (∀ x ∈ a.1, x ∈ b.1) ∧ b.2 < a.2
  cov : ∀ b ∈ done, ∃ c ∈ acc, (∀ x ∈ c.1, x ∈ b.1) ∧ c.2 ≤ b.2
theorem fall_step {done acc : List Bd} {b : Bd} (I : FallI done acc) (hb : ∀ d ∈ done, ∀ x ∈ d.1, x ∈ b.1) : FallI (done ++ [b]) (fallS acc b) := by
  unfold fallS
  cases e : acc.getLast? with
  | none =>
    have ea : acc = [] := List.getLast?_eq_none_iff.mp e
    subst ea
    refine ⟨fun c hc => ?_, by simp, fun d hd => ?_⟩
    · rw [List.nil_append, List.mem_singleton] at hc; rw [hc]; simp
    · rcases List.mem_append.mp hd with q | q
      · obtain ⟨c, hc, _⟩ := I.cov d q; cases hc
      · rw [List.mem_singleton] at q; subst q; exact ⟨d, by simp, fun x h => h, Int.le_refl _⟩
  | some c =>
    obtain ⟨hc, hl⟩ := last_rel e I.pw
    dsimp only
    by_cases h : b.2 < c.2
    · rw [if_pos h]
      refine ⟨fun d hd => ?_, ?_, fun d hd => ?_⟩
      · rcases List.mem_append.mp hd with q | q
        · exact List.mem_append_left _ (I.sub d q)
        · exact List.mem_append_right _ q
      · refine List.pairwise_append.mpr ⟨I.pw, by simp, fun a ha d hd => ?_⟩
        rw [List.mem_singleton] at hd; subst hd
        refine ⟨hb a (I.sub a ha), ?_⟩
        rcases hl a ha with q | q
        · rw [q]; exact h
        · have := q.2; omega
      · rcases List.mem_append.mp hd with q | q
        · obtain ⟨c', h1, h2⟩ := I.cov d q
          exact ⟨c', List.mem_append_left _ h1, h2⟩
        · rw [List.mem_singleton] at q; subst q
          exact ⟨d, by simp, fun x h => h, Int.le_refl _⟩
    · rw [if_neg h]
      refine ⟨fun d hd => List.mem_append_left _ (I.sub d hd), I.pw, fun d hd => ?_⟩
      rcases List.mem_append.mp hd with q | q
      · exact I.cov d q
      · rw [List.mem_singleton] at q; subst q
        exact ⟨c, hc, hb c (I.sub c hc), by omega⟩
theorem fall_all : ∀ {bs done acc : List Bd}, FallI done acc → (done ++ bs).Pairwise (fun b c => ∀ x ∈ b.1, x ∈ c.1) → FallI (done ++ bs) (bs.foldl fallS acc)
  | [], done, acc, I, _ => by rw [List.append_nil]; exact I
  | b :: bs, done, acc, I, p => by
    have p2 := (List.pairwise_append.mp p).2.2
    have := fall_all (bs := bs) (fall_step I (b := b) fun d hd => p2 d hd b (List.mem_cons_self ..)) (by rw [List.append_assoc]; exact p)
    rw [List.append_assoc] at this
    exact this
theorem fall_ok {bs : List Bd} (h : Nest bs) : FallI bs (fallB bs) := by
  have := fall_all (bs := bs) (done := []) (acc := []) ⟨fun c h => (by cases h), .nil, fun b h => (by cases h)⟩ h.up
  exact this
/-- behind the second loop, from the end -/
structure KeptI (done acc : List Bd) : Prop where
  sub : ∀ c ∈ acc, c ∈ done
  pw : acc.Pairwise fun b a => (∀ x ∈ a.1, x ∈ b.1) ∧ b.2 < a.2 ∧ a.2 + (a.1.length : Int) < b.2 + (b.1.length : Int)
  cov : ∀ b ∈ done, ∃ c ∈ acc, (∀ x ∈ b.1, x ∈ c.1) ∧ c.2 + (c.1.length : Int) ≤ b.2 + (b.1.length : Int)
theorem kept_step {done acc : List Bd} {b : Bd} (I : KeptI done acc) (hb : ∀ d ∈ done, (∀ x ∈ b.1, x ∈ d.1) ∧ d.2 < b.2) : KeptI (done ++ [b]) (keptS acc b) := by
  unfold keptS
  cases e : acc.getLast? with
  | none =>
    have ea : acc = [] := List.getLast?_eq_none_iff.mp e
    subst ea
    refine ⟨fun c hc => ?_, by simp, fun d hd => ?_⟩
    · rw [List.nil_append, List.mem_singleton] at hc; rw [hc]; simp
    · rcases List.mem_append.mp hd with q | q
      · obtain ⟨c, hc, _⟩ := I.cov d q; cases hc
      · rw [List.mem_singleton] at q; subst q; exact ⟨d, by simp, fun x h => h, Int.le_refl _⟩
  | some c =>
    obtain ⟨hc, hl⟩ := last_rel e I.pw
    dsimp only
    by_cases h : b.2 + (b.1.length : Int) < c.2 + (c.1.length : Int)
    · rw [if_pos h]
      refine ⟨fun d hd => ?_, ?_, fun d hd => ?_⟩
      · rcases List.mem_append.mp hd with q | q
        · exact List.mem_append_left _ (I.sub d q)
        · exact List.mem_append_right _ q
      · refine List.pairwise_append.mpr ⟨I.pw, by simp, fun a ha d hd => ?_⟩
        rw [List.mem_singleton] at hd; subst hd
        have h1 := hb a (I.sub a ha)
        refine ⟨h1.1, h1.2, ?_⟩
        rcases hl a ha with q | q
        · rw [q]; exact h
        · have := q.2.2; omega
      · rcases List.mem_append.mp hd with q | q
        · obtain ⟨c', h1, h2⟩ := I.cov d q
          exact ⟨c', List.mem_append_left _ h1, h2⟩
        · rw [List.mem_singleton] at q; subst q
          exact ⟨d, by simp, fun x h => h, Int.le_refl _⟩
    · rw [if_neg h]
      refine ⟨fun d hd => List.mem_append_left _ (I.sub d hd), I.pw, fun d hd => ?_⟩
      rcases List.mem_append.mp hd with q | q
      · exact I.cov d q
      · rw [List.mem_singleton] at q; subst q
        exact ⟨c, hc, (hb c (I.sub c hc)).1, by omega⟩
theorem kept_all : ∀ {bs done acc : List Bd}, KeptI done acc → (done ++ bs).Pairwise (fun d b => (∀ x ∈ b.1, x ∈ d.1) ∧ d.2 < b.2) → KeptI (done ++ bs) (bs.foldl keptS acc)
  | [], done, acc, I, _ => by rw [List.append_nil]; exact I
  | b :: bs, done, acc, I, p => by
    have p2 := (List.pairwise_append.mp p).2.2
    have := kept_all (bs := bs) (kept_step I (b := b) fun d hd => p2 d hd b (List.mem_cons_self ..)) (by rw [List.append_assoc]; exact p)
    rw [List.append_assoc] at this
    exact this
/-- the tight ones are a CHAIN, of these, and all follow from them -/
structure TightI (bs c : List Bd) : Prop where
  chain : Chain c
  sub : ∀ b ∈ c, b ∈ bs
  cov : ∀ b ∈ bs, ∃ d ∈ c, fol b d
theorem tight_ok {bs : List Bd} (h : Nest bs) : TightI bs (tightB bs) := by
  have F := fall_ok h
  have KK := kept_all (bs := (fallB bs).reverse) (done := []) (acc := []) ⟨fun c h => (by cases h), .nil, fun b h => (by cases h)⟩ (by
    rw [List.nil_append]
    exact List.pairwise_reverse.mpr F.pw)
  rw [List.nil_append] at KK
  have sb : ∀ b ∈ tightB bs, b ∈ fallB bs := fun b hb => by
    have := KK.sub b (List.mem_reverse.mp hb)
    exact List.mem_reverse.mp this
  refine ⟨⟨fun b hb => h.set b (F.sub b (sb b hb)), List.pairwise_reverse.mpr (KK.pw.imp fun h => h)⟩, fun b hb => F.sub b (sb b hb), fun b hb => ?_⟩
  obtain ⟨c, hc, h1, h2⟩ := F.cov b hb
  obtain ⟨d, hd, h3, h4⟩ := KK.cov c (List.mem_reverse.mpr hc)
  refine ⟨d, List.mem_reverse.mpr hd, ?_⟩
  have nc : c.1.Nodup := (h.set c (F.sub c hc)).nodup
  have ndd : d.1.Nodup := by
    have := F.sub d (List.mem_reverse.mp (KK.sub d hd))
    exact (h.set d this).nodup
  refine fol_trans (b := c) ndd ?_ ?_
  · unfold fol
    rw [lack_sub h1]
    simpa using h2
  · unfold fol
    have := lack_len ndd nc h3
    omega
end TC
namespace TC
open PySem PySem.Spec PyProof.Rows L2
variable [Cl]
theorem pw_ext {α : Type} {R : α → α → Prop} (as : ∀ a b, R a b → ¬ R b a) : ∀ {l r : List α}, l.Pairwise R → r.Pairwise R → (∀ x, x ∈ l ↔ x ∈ r) → l = r
  | [], [], _, _, _ => rfl
  | [], b :: r, _, _, e => by have := (e b).mpr (List.mem_cons_self ..); cases this
  | a :: l, [], _, _, e => by have := (e a).mp (List.mem_cons_self ..); cases this
  | a :: l, b :: r, h, g, e => by
    have h1 := List.pairwise_cons.mp h
    have g1 := List.pairwise_cons.mp g
    have hab : a = b := by
      rcases List.mem_cons.mp ((e a).mp (List.mem_cons_self ..)) with q | q
      · exact q
      · rcases List.mem_cons.mp ((e b).mpr (List.mem_cons_self ..)) with q2 | q2
        · exact q2.symm
        · exact absurd (h1.1 b q2) (as _ _ (g1.1 a q))
    subst hab
    congr 1
    refine pw_ext as h1.2 g1.2 fun x => ⟨fun m => ?_, fun m => ?_⟩
    · rcases List.mem_cons.mp ((e x).mp (List.mem_cons_of_mem _ m)) with q | q
      · subst q; exact absurd (h1.1 x m) (as _ _ (h1.1 x m))
      · exact q
    · rcases List.mem_cons.mp ((e x).mpr (List.mem_cons_of_mem _ m)) with q | q
      · subst q; exact absurd (g1.1 x m) (as _ _ (g1.1 x m))
      · exact q
theorem pw_mem {α : Type} {R : α → α → Prop} : ∀ {l : List α}, l.Pairwise R → ∀ {a b : α}, a ∈ l → b ∈ l → a ≠ b → R a b ∨ R b a
  | x :: l, p, a, b, ha, hb, ne => by
    have p1 := List.pairwise_cons.mp p
    rcases List.mem_cons.mp ha with e1 | h1
    · rcases List.mem_cons.mp hb with e2 | h2
      · exact absurd (e1.trans e2.symm) ne
      · rw [e1]; exact .inl (p1.1 b h2)
    · rcases List.mem_cons.mp hb with e2 | h2
      · rw [e2]; exact .inr (p1.1 a h1)
      · exact pw_mem p1.2 h1 h2 ne
theorem chain_tight {c : List Bd} (h : Chain c) : ∀ a ∈ c, ∀ b ∈ c, fol a b → a = b := by
  have key : c.Pairwise fun a b => ¬ fol a b ∧ ¬ fol b a := by
    refine List.Pairwise.imp_of_mem ?_ h.up
    intro a b ha hb ⟨h1, h2, h3⟩
    have na := (h.set a ha).nodup
    have nb := (h.set b hb).nodup
    constructor
    · intro z
      unfold fol at z
      have := lack_len nb na h1
      omega
    · intro z
      unfold fol at z
      rw [lack_sub h1] at z
      simp at z
      omega
  intro a ha b hb z
  by_cases e : a = b
  · exact e
  · rcases pw_mem key ha hb e with q | q
    · exact absurd z q.1
    · exact absurd z q.2
theorem chain_ext {c d : List Bd} (hc : Chain c) (hd : Chain d) (h1 : ∀ b ∈ c, ∃ e ∈ d, fol b e) (h2 : ∀ e ∈ d, ∃ b ∈ c, fol e b) : c = d := by
  refine pw_ext (R := fun a b : Bd => (∀ x ∈ a.1, x ∈ b.1) ∧ b.2 < a.2 ∧ a.2 + (a.1.length : Int) < b.2 + (b.1.length : Int)) (fun a b h g => by have := h.2.1; have := g.2.1; omega) hc.up hd.up fun x => ⟨fun m => ?_, fun m => ?_⟩
  · obtain ⟨e, he, f1⟩ := h1 x m
    obtain ⟨b, hb, f2⟩ := h2 e he
    have q := chain_tight hc x m b hb (fol_trans (hc.set b hb).nodup f1 f2)
    subst q
    rw [fol_anti (hc.set x m) (hd.set e he) f1 f2]
    exact he
  · obtain ⟨e, he, f1⟩ := h2 x m
    obtain ⟨b, hb, f2⟩ := h1 e he
    have q := chain_tight hd x m b hb (fol_trans (hd.set b hb).nodup f1 f2)
    subst q
    rw [fol_anti (hd.set x m) (hc.set e he) f1 f2]
    exact he
/-! ### what is kept -/
theorem keeps_app {f : List Lim} {N : List Str} : ∀ {a pre b : List Str}, keeps f N pre (a ++ b) = keeps f N pre a ++ keeps f N (pre ++ a) b
  | [], pre, b => by rw [List.nil_append, List.append_nil]; rfl
  | x :: a, pre, b => by
    have ih := keeps_app (f := f) (N := N) (a := a) (pre := pre ++ [x]) (b := b)
    have e : pre ++ [x] ++ a = pre ++ (x :: a) := by simp
    rw [e] at ih
    rw [List.cons_append, keeps, keeps, ih]
    split <;> simp
theorem keeps_sub {f : List Lim} {N : List Str} : ∀ {xs pre : List Str}, ∀ x ∈ keeps f N pre xs, x ∈ xs ∧ x ∉ N
  | [], _, x, h => by cases h
  | y :: ys, pre, x, h => by
    rw [keeps] at h
    split at h
    · rename_i c
      rcases List.mem_cons.mp h with rfl | h
      · simp only [Bool.and_eq_true, Bool.not_eq_true', decide_eq_false_iff_not] at c
        exact ⟨List.mem_cons_self .., c.1⟩
      · exact ⟨List.mem_cons_of_mem _ (keeps_sub x h).1, (keeps_sub x h).2⟩
    · exact ⟨List.mem_cons_of_mem _ (keeps_sub x h).1, (keeps_sub x h).2⟩
theorem keeps_congr {f g : List Lim} {N M : List Str} (hN : ∀ x, x ∈ N ↔ x ∈ M) : ∀ {xs pre : List Str}, (∀ a b, xs = a ++ b → okL f (pre ++ a) = okL g (pre ++ a)) → keeps f N pre xs = keeps g M pre xs
  | [], _, _ => rfl
  | x :: xs, pre, h => by
    have h1 := h [x] xs rfl
    have e : decide (x ∈ N) = decide (x ∈ M) := decide_eq_decide.mpr (hN x)
    have ih := keeps_congr (f := f) (g := g) hN (xs := xs) (pre := pre ++ [x]) fun a b q => by
      have := h (x :: a) b (by rw [q]; rfl)
      rw [List.append_assoc]
      exact this
    rw [keeps, keeps, h1, e, ih]
theorem keeps_last {f : List Lim} {N r : List Str} {x : Str} (hx : x ∉ r) : x ∈ keeps f N [] (r ++ [x]) ↔ x ∉ N ∧ okL f (r ++ [x]) = true := by
  rw [keeps_app, List.mem_append, List.nil_append]
  constructor
  · rintro (h | h)
    · exact absurd (keeps_sub x h).1 hx
    · rw [keeps] at h
      split at h
      · rename_i c
        simp only [Bool.and_eq_true, Bool.not_eq_true', decide_eq_false_iff_not] at c
        exact c
      · cases h
  · rintro ⟨h1, h2⟩
    refine .inr ?_
    rw [keeps, if_pos (by simp [h1, h2])]
    exact List.mem_cons_self ..
theorem cntN_congr {N M q : List Str} (h : ∀ x, x ∈ N ↔ x ∈ M) : cntN N q = cntN M q := by
  unfold cntN
  congr 1
  exact List.filter_congr fun x _ => by rw [decide_eq_decide.mpr (h x)]
theorem okL_cons (p : Lim) (g : List Lim) (q : List Str) : okL (p :: g) q = (decide ((cntN p.1 q : Int) ≤ p.2) && okL g q) := rfl
theorem lims_capB : ∀ {L : List Stp} {h N ns : List Str}, (∀ x, x ∈ N ↔ x ∈ ns) →
    (lims h N L = none ↔ (capB ns h L).any (fun x => decide (x.2 < 1)) = true) ∧ ∀ g, lims h N L = some g → ∀ q, okL g q = okL (capB ns h L) q
  | [], h, N, ns, _ => ⟨by simp [lims, capB], fun g e q => by cases e; rfl⟩
  | .cap n :: L, h, N, ns, e => by
    have ih := lims_capB (L := L) (h := h.take n.toNat) e
    rw [lims, capB, List.any_cons]
    by_cases hn : n ≤ (h.length : Int)
    · rw [if_pos hn, decide_eq_true (show n - (h.length : Int) < 1 by omega)]
      exact ⟨by simp, fun g q => by cases q⟩
    · rw [if_neg hn, decide_eq_false (show ¬ n - (h.length : Int) < 1 by omega), Bool.false_or]
      refine ⟨?_, fun g q r => ?_⟩
      · rw [← ih.1]
        cases lims (h.take n.toNat) N L <;> simp
      · cases e2 : lims (h.take n.toNat) N L with
        | none => rw [e2] at q; cases q
        | some g2 =>
          rw [e2] at q
          cases q
          rw [okL_cons, okL_cons, ih.2 g2 e2 r, cntN_congr e]
  | .touch a :: L, h, N, ns, e => lims_capB (L := L) (h := (Stp.touch a).go h) (N := N ++ [a]) (ns := insS a ns) fun x => by
      rw [List.mem_append, List.mem_singleton, mem_insS, e x]
      exact ⟨fun q => q.elim .inr .inl, fun q => q.elim .inr .inl⟩
  | .forget a :: L, h, N, ns, e => lims_capB (L := L) (h := (Stp.forget a).go h) (N := N ++ [a]) (ns := insS a ns) fun x => by
      rw [List.mem_append, List.mem_singleton, mem_insS, e x]
      exact ⟨fun q => q.elim .inr .inl, fun q => q.elim .inr .inl⟩
theorem mem_nmS : ∀ {L : List Stp} {ns : List Str} {x : Str}, x ∈ nmS ns L ↔ x ∈ ns ∨ x ∈ nms L
  | [], ns, x => by simp [nmS, nms]
  | .touch t :: L, ns, x => by
    rw [nmS, mem_nmS (L := L), mem_insS]
    show (x = t ∨ x ∈ ns) ∨ x ∈ nms L ↔ x ∈ ns ∨ x ∈ [t] ++ nms L
    rw [List.mem_append, List.mem_singleton]
    constructor
    · rintro ((q | q) | q)
      · exact .inr (.inl q)
      · exact .inl q
      · exact .inr (.inr q)
    · rintro (q | q | q)
      · exact .inl (.inr q)
      · exact .inl (.inl q)
      · exact .inr q
  | .forget t :: L, ns, x => by
    rw [nmS, mem_nmS (L := L), mem_insS]
    show (x = t ∨ x ∈ ns) ∨ x ∈ nms L ↔ x ∈ ns ∨ x ∈ [t] ++ nms L
    rw [List.mem_append, List.mem_singleton]
    constructor
    · rintro ((q | q) | q)
      · exact .inr (.inl q)
      · exact .inl q
      · exact .inr (.inr q)
    · rintro (q | q | q)
      · exact .inl (.inr q)
      · exact .inl (.inl q)
      · exact .inr q
  | .cap n :: L, ns, x => by
    rw [nmS, mem_nmS (L := L)]
    show _ ↔ x ∈ ns ∨ x ∈ [] ++ nms L
    rw [List.nil_append]
theorem go_names {s : Stp} {r : List Str} {x : Str} (h : x ∈ s.go r) : x ∈ r ∨ x ∈ s.nms := by
  cases s with
  | touch t =>
    rcases List.mem_cons.mp h with q | q
    · exact .inr (by rw [q]; exact List.mem_singleton.mpr rfl)
    · exact .inl (List.mem_filter.mp q).1
  | forget t => exact .inl (List.mem_filter.mp h).1
  | cap n => exact .inl (List.mem_of_mem_take h)
theorem goes_names : ∀ {L : List Stp} {r : List Str} {x : Str}, x ∈ goes L r → x ∈ r ∨ x ∈ nms L
  | [], r, x, h => .inl h
  | s :: L, r, x, h => by
    show x ∈ r ∨ x ∈ s.nms ++ nms L
    rw [List.mem_append]
    rcases goes_names (L := L) (r := s.go r) h with q | q
    · rcases go_names q with q | q
      · exact .inl q
      · exact .inr (.inl q)
    · exact .inr (.inr q)
theorem go_nodup {s : Stp} {r : List Str} (h : r.Nodup) : (s.go r).Nodup := by
  cases s with
  | touch t =>
    refine List.nodup_cons.mpr ⟨fun m => ?_, h.filter _⟩
    have := (List.mem_filter.mp m).2
    simp at this
  | forget t => exact h.filter _
  | cap n => exact h.sublist (List.take_sublist _ _)
theorem goes_nodup : ∀ {L : List Stp} {r : List Str}, r.Nodup → (goes L r).Nodup
  | [], _, h => h
  | s :: L, r, h => goes_nodup (L := L) (go_nodup (s := s) h)
/-- the bounds of the caps grow -/
theorem capB_mem : ∀ {L : List Stp} {ns h : List Str} {b : Bd}, SetS ns → b ∈ capB ns h L → SetS b.1 ∧ (∀ x ∈ ns, x ∈ b.1) ∧ ∀ x ∈ b.1, x ∈ nmS ns L
  | .cap n :: L, ns, h, b, hs, m => by
    rw [capB] at m
    rcases List.mem_cons.mp m with rfl | m
    · exact ⟨hs, fun x h => h, fun x h => mem_nmS.mpr (.inl h)⟩
    · exact capB_mem (L := L) hs m
  | .touch a :: L, ns, h, b, hs, m => by
    obtain ⟨h1, h2, h3⟩ := capB_mem (L := L) (setS_ins (t := a) hs) m
    exact ⟨h1, fun x hx => h2 x (mem_insS.mpr (.inr hx)), h3⟩
  | .forget a :: L, ns, h, b, hs, m => by
    obtain ⟨h1, h2, h3⟩ := capB_mem (L := L) (setS_ins (t := a) hs) m
    exact ⟨h1, fun x hx => h2 x (mem_insS.mpr (.inr hx)), h3⟩
theorem capB_nest : ∀ {L : List Stp} {ns h : List Str}, SetS ns → Nest (capB ns h L)
  | [], ns, h, _ => ⟨fun b m => (by cases m), .nil⟩
  | .cap n :: L, ns, h, hs => by
    have ih := capB_nest (L := L) (h := h.take n.toNat) hs
    refine ⟨fun b m => (capB_mem hs m).1, ?_⟩
    rw [capB]
    refine List.pairwise_cons.mpr ⟨fun b hb x hx => (capB_mem hs hb).2.1 x hx, ih.up⟩
  | .touch a :: L, ns, h, hs => capB_nest (L := L) (setS_ins hs)
  | .forget a :: L, ns, h, hs => capB_nest (L := L) (setS_ins hs)
theorem capB_le {B : Int} : ∀ {L : List Stp} {ns h : List Str}, (∀ n, Stp.cap n ∈ L → n ≤ B) → ∀ b ∈ capB ns h L, b.2 ≤ B
  | .cap n :: L, ns, h, hB, b, m => by
    rw [capB] at m
    rcases List.mem_cons.mp m with rfl | m
    · have := hB n (List.mem_cons_self ..)
      show n - (h.length : Int) ≤ B
      omega
    · exact capB_le (L := L) (fun n hn => hB n (List.mem_cons_of_mem _ hn)) b m
  | .touch a :: L, ns, h, hB, b, m => capB_le (L := L) (fun n hn => hB n (List.mem_cons_of_mem _ hn)) b m
  | .forget a :: L, ns, h, hB, b, m => capB_le (L := L) (fun n hn => hB n (List.mem_cons_of_mem _ hn)) b m
/-! ### FORMs -/
structure FOk (F : Form) : Prop where
  fnd : F.front.Nodup
  gset : SetS F.gone
  gfr : ∀ x ∈ F.gone, x ∉ F.front
  bds : (F.bds = conB ∧ F.gone = []) ∨ (Chain F.bds ∧ ∀ b ∈ F.bds, 1 ≤ b.2 ∧ ∀ x ∈ b.1, x ∈ F.front ∨ x ∈ F.gone)
theorem not_con {bs : List Bd} (h : ∀ b ∈ bs, (1 : Int) ≤ b.2) : bs ≠ conB := fun e => by
  have := h ([], 0) (by rw [e]; exact List.mem_singleton.mpr rfl)
  exact absurd this (by decide)
theorem shape_ok (L : List Stp) : FOk (shape L) := by
  unfold shape
  dsimp only
  have nd : (goes L []).Nodup := goes_nodup .nil
  by_cases h : (capB [] [] L).any (fun x => decide (x.2 < 1)) = true
  · rw [if_pos h]
    exact ⟨nd, .nil, fun x h => (by cases h), .inl ⟨rfl, rfl⟩⟩
  · rw [if_neg h]
    have T := tight_ok (capB_nest (L := L) (ns := []) (h := []) .nil)
    refine ⟨nd, List.Pairwise.filter _ (setS_nm .nil), fun x hx => by simpa using (List.mem_filter.mp hx).2, .inr ⟨T.chain, fun b hb => ?_⟩⟩
    have hb2 := T.sub b hb
    refine ⟨?_, fun x hx => ?_⟩
    · have : ¬ b.2 < 1 := fun z => h (List.any_eq_true.mpr ⟨b, hb2, decide_eq_true z⟩)
      omega
    · have := (capB_mem .nil hb2).2.2 x hx
      by_cases hf : x ∈ goes L []
      · exact .inl hf
      · exact .inr (List.mem_filter.mpr ⟨this, by simp [hf]⟩)
/-- what a FORM shows of a row -/
def shownF (F : Form) (row : List Str) : List Str := if F.bds = conB then F.front else F.front ++ keeps F.bds (F.front ++ F.gone) [] row
theorem goes_shape {L : List Stp} (hc : ∀ n, Stp.cap n ∈ L → 1 ≤ n) {row : List Str} (nr : row.Nodup) : goes L row = shownF (shape L) row := by
  rw [shown_goes hc]
  unfold shownL
  have KL := lims_capB (L := L) (h := []) (N := []) (ns := []) fun x => Iff.rfl
  cases e : lims [] [] L with
  | none =>
    have h := KL.1.mp e
    unfold shownF shape
    dsimp only
    rw [if_pos h]
    simp
  | some g =>
    have h : ¬ (capB [] [] L).any (fun x => decide (x.2 < 1)) = true := fun z => by rw [KL.1.mpr z] at e; cases e
    have T := tight_ok (capB_nest (L := L) (ns := []) (h := []) .nil)
    have one : ∀ b ∈ tightB (capB [] [] L), (1 : Int) ≤ b.2 := fun b hb => by
      have : ¬ b.2 < 1 := fun z => h (List.any_eq_true.mpr ⟨b, T.sub b hb, decide_eq_true z⟩)
      omega
    unfold shownF shape
    dsimp only
    rw [if_neg h]
    dsimp only
    rw [if_neg (not_con one)]
    congr 1
    refine keeps_congr (fun x => ?_) fun a b q => ?_
    · rw [List.mem_append, List.mem_filter, mem_nmS]
      constructor
      · intro m
        by_cases hf : x ∈ goes L []
        · exact .inl hf
        · exact .inr ⟨.inr m, by simp [hf]⟩
      · rintro (m | ⟨m, _⟩)
        · rcases goes_names m with q | q
          · cases q
          · exact q
        · rcases m with q | q
          · cases q
          · exact q
    · rw [List.nil_append, KL.2 g e a]
      have na : a.Nodup := by
        rw [q] at nr
        exact (List.nodup_append.mp nr).1
      apply Bool.eq_iff_iff.mpr
      unfold okL
      rw [List.all_eq_true, List.all_eq_true]
      constructor
      · exact fun z b hb => z b (T.sub b hb)
      · intro z b hb
        obtain ⟨d, hd, f⟩ := T.cov b hb
        exact decide_eq_true (fol_keep na f (of_decide_eq_true (z d hd)))
end TC
namespace TC
open PySem PySem.Spec PyProof.Rows L2
variable [Cl]
/-! ### unlike FORMs are parted -/
structure Wit (tags fs : List Str) (B : Nat) : Prop where
  ndt : tags.Nodup
  ndf : fs.Nodup
  dis : ∀ x ∈ fs, x ∉ tags
  len : B + 1 ≤ fs.length
structure FIn (F : Form) (tags : List Str) (B : Nat) : Prop where
  fr : ∀ x ∈ F.front, x ∈ tags
  go : ∀ x ∈ F.gone, x ∈ tags
  le : ∀ b ∈ F.bds, b.2 ≤ B
/-- those of the sets of a CHAIN that are none of T, in the lesser sets first -/
def crowd (T : List Str) : List Str → List Bd → List Str
  | acc, [] => acc
  | acc, c :: cs => crowd T (acc ++ c.1.filter (fun x => !decide (x ∈ T) && !decide (x ∈ acc))) cs
structure AccOk (T S acc : List Str) : Prop where
  nd : acc.Nodup
  mem : ∀ x, x ∈ acc ↔ x ∈ S ∧ x ∉ T
theorem acc_len {T S acc : List Str} (h : AccOk T S acc) (ns : S.Nodup) : acc.length = lack S T := by
  rw [lack_def]
  have h1 : acc.length ≤ (S.filter (fun x => !decide (x ∈ T))).length := nd_len h.nd fun x hx => by
    have := (h.mem x).mp hx
    exact List.mem_filter.mpr ⟨this.1, by simp [this.2]⟩
  have h2 : (S.filter (fun x => !decide (x ∈ T))).length ≤ acc.length := nd_len (ns.filter _) fun x hx => by
    have := List.mem_filter.mp hx
    exact (h.mem x).mpr ⟨this.1, by simpa using this.2⟩
  omega
theorem acc_step {T S acc : List Str} {c : Bd} (h : AccOk T S acc) (nc : c.1.Nodup) (up : ∀ x ∈ S, x ∈ c.1) : AccOk T c.1 (acc ++ c.1.filter (fun x => !decide (x ∈ T) && !decide (x ∈ acc))) := by
  refine ⟨?_, fun x => ?_⟩
  · rw [List.nodup_append]
    refine ⟨h.nd, nc.filter _, fun a ha b hb e => ?_⟩
    subst e
    have := (List.mem_filter.mp hb).2
    simp [ha] at this
  · rw [List.mem_append, List.mem_filter]
    constructor
    · rintro (m | ⟨m, n⟩)
      · have := (h.mem x).mp m
        exact ⟨up x this.1, this.2⟩
      · simp only [Bool.and_eq_true, Bool.not_eq_true', decide_eq_false_iff_not] at n
        exact ⟨m, n.1⟩
    · rintro ⟨m, n⟩
      by_cases q : x ∈ acc
      · exact .inl q
      · exact .inr ⟨m, by simp [n, q]⟩
theorem crowd_pre (T : List Str) : ∀ (cs : List Bd) (acc : List Str), ∃ r, crowd T acc cs = acc ++ r
  | [], acc => ⟨[], by simp [crowd]⟩
  | c :: cs, acc => by
    obtain ⟨r, e⟩ := crowd_pre T cs (acc ++ c.1.filter (fun x => !decide (x ∈ T) && !decide (x ∈ acc)))
    exact ⟨_, by rw [crowd, e, List.append_assoc]⟩
theorem crowd_all {T : List Str} : ∀ {cs : List Bd} {acc S : List Str}, AccOk T S acc → (∀ c ∈ cs, c.1.Nodup) → (∀ c ∈ cs, ∀ x ∈ S, x ∈ c.1) → cs.Pairwise (fun a b => ∀ x ∈ a.1, x ∈ b.1) →
    (crowd T acc cs).Nodup ∧ (∀ x ∈ crowd T acc cs, x ∉ T ∧ (x ∈ S ∨ ∃ c ∈ cs, x ∈ c.1)) ∧ ∀ c ∈ cs, ∃ a r, crowd T acc cs = a ++ r ∧ AccOk T c.1 a
  | [], acc, S, h, _, _, _ => ⟨h.nd, fun x hx => ⟨((h.mem x).mp hx).2, .inl ((h.mem x).mp hx).1⟩, fun c hc => by cases hc⟩
  | c :: cs, acc, S, h, nc, up, pw => by
    have p1 := List.pairwise_cons.mp pw
    have hs := acc_step (c := c) h (nc c (List.mem_cons_self ..)) (up c (List.mem_cons_self ..))
    obtain ⟨i1, i2, i3⟩ := crowd_all (cs := cs) hs (fun d hd => nc d (List.mem_cons_of_mem _ hd)) (fun d hd x hx => p1.1 d hd x hx) p1.2
    refine ⟨i1, fun x hx => ?_, fun d hd => ?_⟩
    · obtain ⟨n, q⟩ := i2 x hx
      refine ⟨n, .inr ?_⟩
      rcases q with q | ⟨d, hd, q⟩
      · exact ⟨c, List.mem_cons_self .., q⟩
      · exact ⟨d, List.mem_cons_of_mem _ hd, q⟩
    · rcases List.mem_cons.mp hd with rfl | hd
      · obtain ⟨r, e⟩ := crowd_pre T cs (acc ++ d.1.filter (fun x => !decide (x ∈ T) && !decide (x ∈ acc)))
        exact ⟨_, r, e, hs⟩
      · exact i3 d hd
theorem cnt_app (N a b : List Str) : cntN N (a ++ b) = cntN N a + cntN N b := by
  unfold cntN; rw [List.filter_append, List.length_append]
theorem cnt_out {N q : List Str} (h : ∀ x ∈ q, x ∉ N) : cntN N q = q.length := by
  unfold cntN
  rw [List.filter_eq_self.mpr fun x hx => by simp [h x hx]]
/-- a row with a new name that keeps the first CHAIN and not this bound -/
theorem crowd_row {tags fs : List Str} {B : Nat} (W : Wit tags fs B) {cs : List Bd} (hc : Chain cs) (one : ∀ c ∈ cs, (1 : Int) ≤ c.2) (inT : ∀ c ∈ cs, ∀ x ∈ c.1, x ∈ tags) {b : Bd} (b1 : 1 ≤ b.2) (bB : b.2 ≤ B) (bT : ∀ x ∈ b.1, x ∈ tags) (no : ∀ c ∈ cs, ¬ fol b c) :
    ∃ (p : Str → Bool) (k : Nat) (x : Str) (r : List Str), k ≤ B + 1 ∧ tags.filter p ++ fs.take k = r ++ [x] ∧ x ∉ r ∧ x ∉ tags ∧ (r ++ [x]).Nodup ∧ okL cs (r ++ [x]) = true ∧ ¬ (cntN b.1 (r ++ [x]) : Int) ≤ b.2 := by
  obtain ⟨c1, c2, c3⟩ := crowd_all (T := b.1) (cs := cs) (acc := []) (S := []) ⟨.nil, fun x => by simp⟩ (fun c h => (hc.set c h).nodup) (fun c _ x hx => by cases hx) (hc.up.imp fun h => h.1)
  generalize crowd b.1 [] cs = full at c1 c2 c3
  obtain ⟨m, hm⟩ : ∃ m : Nat, b.2 = (m : Int) := ⟨b.2.toNat, by omega⟩
  have ndA : (full.take m).Nodup := c1.sublist (List.take_sublist _ _)
  have inA : ∀ x ∈ full.take m, x ∉ b.1 ∧ x ∈ tags := fun x hx => by
    obtain ⟨n, q⟩ := c2 x (List.mem_of_mem_take hx)
    refine ⟨n, ?_⟩
    rcases q with q | ⟨c, hcc, q⟩
    · cases q
    · exact inT c hcc x q
  have lenA : (full.take m).length ≤ m := by rw [List.length_take]; omega
  have big : ∀ c ∈ cs, min m (lack c.1 b.1) ≤ ((full.take m).filter (fun x => decide (x ∈ c.1))).length := fun c hcc => by
    obtain ⟨a, r, e, ha⟩ := c3 c hcc
    have hl := acc_len ha (hc.set c hcc).nodup
    have e2 : (full.take (min m a.length)).length = min m (lack c.1 b.1) := by
      rw [List.length_take, e, List.length_append, hl]; omega
    rw [← e2]
    refine nd_len (c1.sublist (List.take_sublist _ _)) fun x hx => ?_
    have h1 : x ∈ full.take m := List.take_subset_take_left full (Nat.min_le_left _ _) hx
    have h2 : x ∈ a := by
      have := List.take_subset_take_left full (Nat.min_le_right m a.length) hx
      rw [e, List.take_append_of_le_length (Nat.le_refl _), List.take_length] at this
      exact this
    exact List.mem_filter.mpr ⟨h1, by simp [((ha.mem x).mp h2).1]⟩
  generalize full.take m = A at ndA inA lenA big
  -- the row
  let X := tags.filter (fun x => decide (x ∈ A))
  have ndX : X.Nodup := W.ndt.filter _
  have memX : ∀ x, x ∈ X ↔ x ∈ A := fun x => by
    show x ∈ tags.filter _ ↔ _
    rw [List.mem_filter]
    exact ⟨fun h => by simpa using h.2, fun h => ⟨(inA x h).2, by simpa using h⟩⟩
  have lenX : X.length = A.length := by
    have h1 := nd_len ndX fun x hx => (memX x).mp hx
    have h2 := nd_len ndA fun x hx => (memX x).mpr hx
    omega
  obtain ⟨k, hk⟩ : ∃ k : Nat, k = m - A.length := ⟨_, rfl⟩
  have hkB : k < fs.length := by have := W.len; omega
  have et : fs.take (k + 1) = fs.take k ++ [fs[k]] := by rw [List.take_append_getElem hkB]
  have xT : fs[k] ∉ tags := W.dis _ (List.getElem_mem hkB)
  have ndF : (fs.take (k + 1)).Nodup := W.ndf.sublist (List.take_sublist _ _)
  have rowe : X ++ fs.take (k + 1) = (X ++ fs.take k) ++ [fs[k]] := by rw [et, List.append_assoc]
  have ndr : (X ++ fs.take (k + 1)).Nodup := by
    rw [List.nodup_append]
    refine ⟨ndX, ndF, fun a ha c hcc e => ?_⟩
    subst e
    exact W.dis _ (List.mem_of_mem_take hcc) (inA _ ((memX _).mp ha)).2
  have cntF : ∀ N : List Str, (∀ x ∈ N, x ∈ tags) → cntN N (fs.take (k + 1)) = k + 1 := fun N hN => by
    rw [cnt_out fun x hx z => W.dis x (List.mem_of_mem_take hx) (hN x z), List.length_take]
    omega
  refine ⟨fun x => decide (x ∈ A), k + 1, fs[k], X ++ fs.take k, by omega, rowe, ?_, xT, by rw [← rowe]; exact ndr, ?_, ?_⟩
  · intro z
    rw [rowe] at ndr
    exact (List.nodup_append.mp ndr).2.2 _ z _ (List.mem_singleton.mpr rfl) rfl
  · rw [← rowe]
    unfold okL
    rw [List.all_eq_true]
    intro c hcc
    refine decide_eq_true ?_
    rw [cnt_app, cntF c.1 (inT c hcc)]
    have h1 := len_split X c.1
    have h2 : ((A.filter (fun x => decide (x ∈ c.1)))).length ≤ (X.filter (fun x => decide (x ∈ c.1))).length := nd_len (ndA.filter _) fun x hx => by
      have := List.mem_filter.mp hx
      exact List.mem_filter.mpr ⟨(memX x).mpr this.1, this.2⟩
    have h3 := big c hcc
    have h4 : ¬ (c.2 + (lack c.1 b.1 : Int) ≤ b.2) := no c hcc
    have h5 := one c hcc
    have h6 : lack X c.1 = cntN c.1 X := rfl
    omega
  · rw [← rowe, cnt_app, cntF b.1 bT]
    have h1 : cntN b.1 X = X.length := cnt_out fun x hx => (inA x ((memX x).mp hx)).1
    omega
theorem keeps_one {f : List Lim} {N : List Str} {x : Str} (hx : x ∉ N) (h : ∀ b ∈ f, (1 : Int) ≤ b.2) : keeps f N [] [x] = [x] := by
  have ok : okL f ([] ++ [x]) = true := by
    unfold okL
    rw [List.all_eq_true]
    intro b hb
    have h1 := h b hb
    have h2 := cnt_one b.1 [] x
    have h3 : cntN b.1 [] = 0 := rfl
    refine decide_eq_true ?_
    rw [h2, h3]
    split <;> omega
  have ok2 : okL f [x] = true := ok
  rw [keeps, if_pos (by simp [hx, ok2])]
  rfl
theorem shown_con {F : Form} (h : F.bds = conB) (row : List Str) : shownF F row = F.front := by unfold shownF; rw [if_pos h]
theorem shown_chain {F : Form} (h : F.bds ≠ conB) (row : List Str) : shownF F row = F.front ++ keeps F.bds (F.front ++ F.gone) [] row := by unfold shownF; rw [if_neg h]
theorem shown_nil (F : Form) : shownF F [] = F.front := by
  unfold shownF
  split
  · rfl
  · simp [keeps]
/-- each bound of G follows from one of F, if F never shows more of these rows -/
theorem bds_cov {tags fs : List Str} {B : Nat} (W : Wit tags fs B) {F G : Form} (okF : FOk F) (okG : FOk G) (iF : FIn F tags B) (iG : FIn G tags B) (cF : F.bds ≠ conB) (cG : G.bds ≠ conB)
    (h : ∀ p k, k ≤ B + 1 → ∀ x ∈ shownF F (tags.filter p ++ fs.take k), x ∈ shownF G (tags.filter p ++ fs.take k)) : ∀ b ∈ G.bds, ∃ c ∈ F.bds, fol b c := by
  intro b hb
  obtain ⟨chF, boF⟩ := okF.bds.resolve_left fun z => cF z.1
  obtain ⟨chG, boG⟩ := okG.bds.resolve_left fun z => cG z.1
  by_cases q : ∃ c ∈ F.bds, fol b c
  · exact q
  · have no : ∀ c ∈ F.bds, ¬ fol b c := fun c hc z => q ⟨c, hc, z⟩
    have inF : ∀ c ∈ F.bds, ∀ x ∈ c.1, x ∈ tags := fun c hc x hx => ((boF c hc).2 x hx).elim (iF.fr x) (iF.go x)
    have inG : ∀ x ∈ b.1, x ∈ tags := fun x hx => ((boG b hb).2 x hx).elim (iG.fr x) (iG.go x)
    obtain ⟨p, k, x, r, hk, er, xr, xT, ndr, ok, bad⟩ := crowd_row W chF (fun c hc => (boF c hc).1) inF (boG b hb).1 (iG.le b hb) inG no
    have hh := h p k hk x
    rw [er, shown_chain cF, shown_chain cG, List.mem_append, List.mem_append, keeps_last xr, keeps_last xr] at hh
    have nF : x ∉ F.front ++ F.gone := fun z => xT ((List.mem_append.mp z).elim (iF.fr x) (iF.go x))
    rcases hh (.inr ⟨nF, ok⟩) with z | z
    · exact absurd (iG.fr x z) xT
    · have := List.all_eq_true.mp z.2 b hb
      exact absurd (of_decide_eq_true this) bad
theorem form_inj {tags fs : List Str} {B : Nat} (W : Wit tags fs B) {F G : Form} (okF : FOk F) (okG : FOk G) (iF : FIn F tags B) (iG : FIn G tags B)
    (h : ∀ p k, k ≤ B + 1 → shownF F (tags.filter p ++ fs.take k) = shownF G (tags.filter p ++ fs.take k)) : F = G := by
  have hfr : F.front = G.front := by
    have := h (fun _ => false) 0 (Nat.zero_le _)
    rw [List.take_zero, List.append_nil, List.filter_eq_nil_iff.mpr (by simp), shown_nil, shown_nil] at this
    exact this
  have h0 : 0 < fs.length := by have := W.len; omega
  have newx : fs[0] ∉ tags := W.dis _ (List.getElem_mem h0)
  have row1 : (tags.filter fun _ => false) ++ fs.take 1 = [fs[0]] := by
    rw [List.filter_eq_nil_iff.mpr (by simp), List.nil_append]
    have : fs.take (0 + 1) = fs.take 0 ++ [fs[0]] := by rw [List.take_append_getElem h0]
    simpa using this
  have con : ∀ {F G : Form}, FOk G → FIn G tags B → F.front = G.front → shownF F [fs[0]] = shownF G [fs[0]] → F.bds = conB → G.bds = conB := by
    intro F G okG iG hfr e c
    by_cases cG : G.bds = conB
    · exact cG
    · obtain ⟨_, boG⟩ := okG.bds.resolve_left fun z => cG z.1
      have nG : fs[0] ∉ G.front ++ G.gone := fun z => newx ((List.mem_append.mp z).elim (iG.fr _) (iG.go _))
      rw [shown_con c, shown_chain cG, keeps_one nG (fun b hb => (boG b hb).1), hfr] at e
      have := congrArg List.length e
      rw [List.length_append, List.length_singleton] at this
      omega
  have e1 := h (fun _ => false) 1 (by omega)
  rw [row1] at e1
  by_cases cF : F.bds = conB
  · have cG := con okG iG hfr e1 cF
    have gF := (okF.bds.resolve_right fun z => not_con (fun b hb => (z.2 b hb).1) cF).2
    have gG := (okG.bds.resolve_right fun z => not_con (fun b hb => (z.2 b hb).1) cG).2
    cases F; cases G
    simp only at hfr cF cG gF gG
    rw [hfr, cF, cG, gF, gG]
  · have cG : G.bds ≠ conB := fun z => cF (con okF iF hfr.symm e1.symm z)
    have gone : ∀ {F G : Form}, FOk F → FOk G → FIn F tags B → F.front = G.front → F.bds ≠ conB → G.bds ≠ conB → (∀ p k, k ≤ B + 1 → shownF F (tags.filter p ++ fs.take k) = shownF G (tags.filter p ++ fs.take k)) → ∀ y ∈ F.gone, y ∈ G.gone := by
      intro F G okF okG iF hfr cF cG h y hy
      by_cases q : y ∈ G.gone
      · exact q
      · have yt := iF.go y hy
        have row : (tags.filter fun x => decide (x = y)) ++ fs.take 0 = [y] := by
          rw [List.take_zero, List.append_nil]
          have : ∀ {l : List Str}, l.Nodup → y ∈ l → l.filter (fun x => decide (x = y)) = [y] := by
            intro l
            induction l with
            | nil => intro _ m; cases m
            | cons a l ih =>
              intro nd m
              have nd1 := List.nodup_cons.mp nd
              by_cases e : a = y
              · subst e
                rw [List.filter_cons_of_pos (by simp), List.filter_eq_nil_iff.mpr fun x hx => by
                  simp only [decide_eq_true_eq]
                  exact fun z => nd1.1 (z ▸ hx)]
              · rw [List.filter_cons_of_neg (by simp [e])]
                exact ih nd1.2 ((List.mem_cons.mp m).resolve_left fun z => e z.symm)
          exact this W.ndt yt
        have e := h (fun x => decide (x = y)) 0 (Nat.zero_le _)
        rw [row, shown_chain cF, shown_chain cG] at e
        obtain ⟨_, boG⟩ := okG.bds.resolve_left fun z => cG z.1
        have nG : y ∉ G.front ++ G.gone := fun z => (List.mem_append.mp z).elim (fun z => okF.gfr y hy (by rw [hfr]; exact z)) q
        rw [keeps_one nG (fun b hb => (boG b hb).1)] at e
        have eF : keeps F.bds (F.front ++ F.gone) [] [y] = [] := by
          rw [keeps, if_neg (by simp [hy])]
          rfl
        rw [eF, hfr, List.append_nil] at e
        have := congrArg List.length e
        rw [List.length_append, List.length_singleton] at this
        omega
    have hgo : F.gone = G.gone := setS_ext okF.gset okG.gset fun y => ⟨gone okF okG iF hfr cF cG h y, gone okG okF iG hfr.symm cG cF (fun p k hk => (h p k hk).symm) y⟩
    have chF := (okF.bds.resolve_left fun z => cF z.1).1
    have chG := (okG.bds.resolve_left fun z => cG z.1).1
    have hb : F.bds = G.bds := chain_ext chF chG (bds_cov W okG okF iG iF cG cF fun p k hk x hx => by rw [h p k hk]; exact hx) (bds_cov W okF okG iF iG cF cG fun p k hk x hx => by rw [← h p k hk]; exact hx)
    cases F; cases G
    simp only at hfr hgo hb
    rw [hfr, hgo, hb]
end TC
namespace TC
open PySem PySem.Spec PyProof.Rows L2
variable [Cl]
/-! ### alike: FORMs are equal -/
theorem shape_in {L : List Stp} {tags : List Str} {B : Nat} (hn : ∀ x ∈ nms L, x ∈ tags) (hB : ∀ n, Stp.cap n ∈ L → n ≤ (B : Int)) : FIn (shape L) tags B := by
  unfold shape
  dsimp only
  have fr : ∀ x ∈ goes L [], x ∈ tags := fun x hx => (goes_names hx).elim (fun z => by cases z) (hn x)
  by_cases h : (capB [] [] L).any (fun x => decide (x.2 < 1)) = true
  · rw [if_pos h]
    refine ⟨fr, fun x hx => (by cases hx), fun b hb => ?_⟩
    have e : b = ([], 0) := List.mem_singleton.mp hb
    rw [e]
    exact Int.natCast_nonneg B
  · rw [if_neg h]
    have T := tight_ok (capB_nest (L := L) (ns := []) (h := []) .nil)
    refine ⟨fr, fun x hx => ?_, fun b hb => capB_le hB b (T.sub b hb)⟩
    rcases mem_nmS.mp (List.mem_filter.mp hx).1 with z | z
    · cases z
    · exact hn x z
theorem filter_pre_nodup {tags fs : List Str} {B : Nat} (W : Wit tags fs B) (p : Str → Bool) (k : Nat) : (tags.filter p ++ fs.take k).Nodup := by
  rw [List.nodup_append]
  refine ⟨W.ndt.filter _, W.ndf.sublist (List.take_sublist _ _), fun a ha c hc e => ?_⟩
  subst e
  exact W.dis _ (List.mem_of_mem_take hc) (List.mem_filter.mp ha).1
theorem shape_inj {tags fs : List Str} {B : Nat} (W : Wit tags fs B) {L M : List Stp} (cL : ∀ n, Stp.cap n ∈ L → 1 ≤ n) (cM : ∀ n, Stp.cap n ∈ M → 1 ≤ n) (nL : ∀ x ∈ nms L, x ∈ tags) (nM : ∀ x ∈ nms M, x ∈ tags) (bL : ∀ n, Stp.cap n ∈ L → n ≤ (B : Int)) (bM : ∀ n, Stp.cap n ∈ M → n ≤ (B : Int))
    (h : ∀ p k, k ≤ B + 1 → goes L (tags.filter p ++ fs.take k) = goes M (tags.filter p ++ fs.take k)) : shape L = shape M :=
  form_inj W (shape_ok L) (shape_ok M) (shape_in nL bL) (shape_in nM bM) fun p k hk => by
    rw [← goes_shape cL (filter_pre_nodup W p k), ← goes_shape cM (filter_pre_nodup W p k)]
    exact h p k hk
/-! ### new names without end -/
def longZ (n : Nat) : Str := ⟨(List.replicate n 97).toArray⟩
theorem longZ_len (n : Nat) : (longZ n).length = n := by show (List.replicate n 97).toArray.size = n; simp
theorem maxLen : ∀ (tags : List Str), ∃ m : Nat, ∀ x ∈ tags, x.length ≤ m
  | [] => ⟨0, fun x h => by cases h⟩
  | a :: r => by
    obtain ⟨m, h⟩ := maxLen r
    refine ⟨max m a.length, fun x hx => ?_⟩
    rcases List.mem_cons.mp hx with rfl | hx
    · exact Nat.le_max_right _ _
    · exact Nat.le_trans (h x hx) (Nat.le_max_left _ _)
theorem wit_any {tags : List Str} (ndt : tags.Nodup) (B : Nat) : ∃ fs, Wit tags fs B := by
  obtain ⟨m, hm⟩ := maxLen tags
  refine ⟨(List.range (B + 1)).map fun k => longZ (m + 1 + k), ndt, ?_, fun x hx z => ?_, by simp⟩
  · refine List.Pairwise.map _ (R := fun a b => a ≠ b) (fun a b h e => ?_) (List.nodup_range (n := B + 1))
    have := congrArg Str.length e
    rw [longZ_len, longZ_len] at this
    omega
  · obtain ⟨k, _, rfl⟩ := List.mem_map.mp hx
    have := hm _ z
    rw [longZ_len] at this
    omega
theorem capMax : ∀ (L : List Stp), ∃ B : Nat, ∀ n, Stp.cap n ∈ L → n ≤ (B : Int)
  | [] => ⟨0, fun n h => by cases h⟩
  | s :: L => by
    obtain ⟨B, h⟩ := capMax L
    cases s with
    | touch t => exact ⟨B, fun n hn => h n ((List.mem_cons.mp hn).resolve_left fun z => by cases z)⟩
    | forget t => exact ⟨B, fun n hn => h n ((List.mem_cons.mp hn).resolve_left fun z => by cases z)⟩
    | cap k =>
      refine ⟨max B k.toNat, fun n hn => ?_⟩
      rcases List.mem_cons.mp hn with q | q
      · cases q
        have := Nat.le_max_right B k.toNat
        omega
      · have := h n q
        have := Nat.le_max_left B k.toNat
        omega
theorem alike_iff {L M : List Stp} (cL : ∀ n, Stp.cap n ∈ L → 1 ≤ n) (cM : ∀ n, Stp.cap n ∈ M → 1 ≤ n) : shape L = shape M ↔ ∀ row : List Str, row.Nodup → goes L row = goes M row := by
  constructor
  · intro e row nr
    rw [goes_shape cL nr, goes_shape cM nr, e]
  · intro h
    obtain ⟨B, hB⟩ := capMax (L ++ M)
    have ndt : (nmS [] (L ++ M)).Nodup := (setS_nm .nil).nodup
    obtain ⟨fs, W⟩ := wit_any ndt B
    have inn : ∀ x, x ∈ nms L ∨ x ∈ nms M → x ∈ nmS [] (L ++ M) := fun x hx => mem_nmS.mpr (.inr (by
      show x ∈ (L ++ M).flatMap Stp.nms
      rw [List.flatMap_append, List.mem_append]
      exact hx))
    exact shape_inj W cL cM (fun x hx => inn x (.inl hx)) (fun x hx => inn x (.inr hx)) (fun n hn => hB n (List.mem_append_left _ hn)) (fun n hn => hB n (List.mem_append_right _ hn)) fun p k _ => h _ (filter_pre_nodup W p k)
/-! ### rows of steps, one behind another -/
theorem nmS_mem_app {A : List Stp} {ns : List Str} {x : Str} : x ∈ nmS ns A ↔ x ∈ ns ∨ x ∈ nms A := mem_nmS
theorem capB_app : ∀ {A C : List Stp} {ns h : List Str}, capB ns h (A ++ C) = capB ns h A ++ capB (nmS ns A) (goes A h) C
  | [], C, ns, h => rfl
  | .cap n :: A, C, ns, h => by
    rw [List.cons_append, capB, capB, capB_app (A := A)]
    rfl
  | .touch a :: A, C, ns, h => by
    rw [List.cons_append, capB, capB, capB_app (A := A)]
    rfl
  | .forget a :: A, C, ns, h => by
    rw [List.cons_append, capB, capB, capB_app (A := A)]
    rfl
theorem capB_fg : ∀ {A : List Str} {ns h : List Str}, capB ns h (A.map .forget) = []
  | [], _, _ => rfl
  | a :: A, ns, h => by rw [List.map_cons, capB, capB_fg (A := A)]
theorem capB_tc : ∀ {A : List Str} {ns h : List Str}, capB ns h (A.map .touch) = []
  | [], _, _ => rfl
  | a :: A, ns, h => by rw [List.map_cons, capB, capB_tc (A := A)]
theorem goes_fg_nil : ∀ {A : List Str}, goes (A.map .forget) [] = []
  | [] => rfl
  | a :: A => goes_fg_nil (A := A)
theorem nms_fg : ∀ {A : List Str}, nms (A.map .forget) = A
  | [] => rfl
  | a :: A => by
    show [a] ++ nms (A.map .forget) = _
    rw [nms_fg (A := A)]; rfl
theorem nms_tc : ∀ {A : List Str}, nms (A.map .touch) = A
  | [] => rfl
  | a :: A => by
    show [a] ++ nms (A.map .touch) = _
    rw [nms_tc (A := A)]; rfl
theorem nms_app (A C : List Stp) : nms (A ++ C) = nms A ++ nms C := List.flatMap_append ..
theorem goes_touch : ∀ {f r : List Str}, f.Nodup → goes (f.reverse.map .touch) r = f ++ r.filter (fun x => !decide (x ∈ f))
  | [], r, _ => by
    show r = [] ++ r.filter _
    rw [List.nil_append, List.filter_eq_self.mpr (by simp)]
  | a :: f, r, nd => by
    have nd1 := List.nodup_cons.mp nd
    rw [List.reverse_cons, List.map_append, goes_app, goes_touch nd1.2]
    show a :: (f ++ r.filter _).filter _ = _
    rw [List.filter_append, List.filter_filter, List.cons_append]
    congr 1
    congr 1
    · refine List.filter_eq_self.mpr fun x hx => ?_
      have : x ≠ a := fun e => nd1.1 (e ▸ hx)
      simp [this]
    · exact List.filter_congr fun x _ => by simp [Bool.and_comm]
/-! ### the plain steps of a FORM -/
theorem plainC_ok : ∀ {bs : List Bd} {lost ns : List Str}, SetS ns → (∀ x, x ∈ ns ↔ x ∈ lost) → (∀ b ∈ bs, SetS b.1) → (∀ b ∈ bs, ∀ x ∈ lost, x ∈ b.1) → bs.Pairwise (fun a b => ∀ x ∈ a.1, x ∈ b.1) →
    capB ns [] (plainC lost bs) = bs ∧ goes (plainC lost bs) [] = [] ∧ (∀ x, x ∈ nmS ns (plainC lost bs) ↔ x ∈ lostC lost bs) ∧ ∀ x, x ∈ lostC lost bs ↔ x ∈ lost ∨ ∃ b ∈ bs, x ∈ b.1
  | [], lost, ns, h, e, _, _, _ => ⟨rfl, rfl, e, fun x => by simp [lostC]⟩
  | (s, n) :: bs, lost, ns, h, e, hs, up, pw => by
    have p1 := List.pairwise_cons.mp pw
    have hs1 : SetS s := hs (s, n) (List.mem_cons_self ..)
    have up1 : ∀ x ∈ lost, x ∈ s := up (s, n) (List.mem_cons_self ..)
    have en : nmS ns ((s.filter (fun x => !decide (x ∈ lost))).map .forget) = s := setS_ext (setS_nm h) hs1 fun x => by
      rw [mem_nmS, nms_fg, e x, List.mem_filter]
      constructor
      · rintro (q | q)
        · exact up1 x q
        · exact q.1
      · intro q
        by_cases z : x ∈ lost
        · exact .inl z
        · exact .inr ⟨q, by simp [z]⟩
    have mem2 : ∀ x, x ∈ s ↔ x ∈ lost ++ s.filter (fun x => !decide (x ∈ lost)) := fun x => by
      rw [List.mem_append, List.mem_filter]
      constructor
      · intro q
        by_cases z : x ∈ lost
        · exact .inl z
        · exact .inr ⟨q, by simp [z]⟩
      · rintro (q | q)
        · exact up1 x q
        · exact q.1
    obtain ⟨i1, i2, i3, i4⟩ := plainC_ok (bs := bs) (lost := lost ++ s.filter (fun x => !decide (x ∈ lost))) hs1 mem2 (fun b hb => hs b (List.mem_cons_of_mem _ hb)) (fun b hb x hx => p1.1 b hb x ((mem2 x).mpr hx)) p1.2
    rw [plainC]
    refine ⟨?_, ?_, fun x => ?_, fun x => ?_⟩
    · rw [capB_app, capB_fg, goes_fg_nil, en, List.nil_append, capB]
      show (s, n - 0) :: capB s ([].take n.toNat) _ = _
      rw [List.take_nil, i1, Int.sub_zero]
    · rw [goes_app, goes_fg_nil]
      show goes (plainC _ bs) ([].take n.toNat) = []
      rw [List.take_nil, i2]
    · rw [nmS_app, en]
      show x ∈ nmS s (plainC _ bs) ↔ _
      exact i3 x
    · rw [lostC, i4 x, ← mem2 x]
      constructor
      · rintro (q | ⟨b, hb, q⟩)
        · exact .inr ⟨(s, n), List.mem_cons_self .., q⟩
        · exact .inr ⟨b, List.mem_cons_of_mem _ hb, q⟩
      · rintro (q | ⟨b, hb, q⟩)
        · exact .inl (up1 x q)
        · rcases List.mem_cons.mp hb with rfl | hb
          · exact .inl q
          · exact .inr ⟨b, hb, q⟩
theorem chain_nest {c : List Bd} (h : Chain c) : Nest c := ⟨h.set, h.up.imp fun z => z.1⟩
theorem tight_self {c : List Bd} (h : Chain c) : tightB c = c := by
  have T := tight_ok (chain_nest h)
  exact chain_ext T.chain h (fun b hb => ⟨b, T.sub b hb, fol_refl b⟩) T.cov
theorem shape_plain {F : Form} (h : FOk F) : shape (plainL F) = F := by
  unfold plainL
  by_cases c : F.bds = conB
  · rw [if_pos c]
    have g : F.gone = [] := (h.bds.resolve_right fun z => not_con (fun b hb => (z.2 b hb).1) c).2
    unfold conSteps
    by_cases e : F.front = []
    · rw [if_pos e]
      have : F = ⟨[], [], conB⟩ := by cases F; simp only at c g e; rw [c, g, e]
      rw [this]
      decide +kernel
    · rw [if_neg e]
      have gf : goes (F.front.reverse.map Stp.touch ++ [.cap (F.front.length : Int)]) [] = F.front := by
        rw [goes_app, goes_touch h.fnd]
        show (F.front ++ _).take (F.front.length : Int).toNat = _
        rw [Int.toNat_natCast]
        simp
      have cb : (capB [] [] (F.front.reverse.map Stp.touch ++ [.cap (F.front.length : Int)])).any (fun x => decide (x.2 < 1)) = true := by
        rw [capB_app, capB_tc, goes_touch h.fnd, List.nil_append, capB, List.any_cons]
        rw [decide_eq_true (by simp), Bool.true_or]
      unfold shape
      dsimp only
      rw [if_pos cb, gf]
      cases F
      simp only at c g
      rw [c, g]
  · rw [if_neg c]
    obtain ⟨ch, bo⟩ := h.bds.resolve_left fun z => c z.1
    obtain ⟨p1, p2, p3, p4⟩ := plainC_ok (bs := F.bds) (lost := []) (ns := []) .nil (fun x => Iff.rfl) ch.set (fun b _ x hx => by cases hx) (ch.up.imp fun z => z.1)
    have gf : goes (plainC [] F.bds ++ ((F.gone.filter fun x => !decide (x ∈ lostC [] F.bds)).map .forget ++ F.front.reverse.map .touch)) [] = F.front := by
      rw [goes_app, p2, goes_app, goes_fg_nil, goes_touch h.fnd]
      simp
    have cb : capB [] [] (plainC [] F.bds ++ ((F.gone.filter fun x => !decide (x ∈ lostC [] F.bds)).map .forget ++ F.front.reverse.map .touch)) = F.bds := by
      rw [capB_app, p1, p2, capB_app, capB_fg, capB_tc, List.append_nil, List.append_nil]
    have no : ¬ F.bds.any (fun x => decide (x.2 < 1)) = true := fun z => by
      obtain ⟨b, hb, q⟩ := List.any_eq_true.mp z
      have := (bo b hb).1
      have := of_decide_eq_true q
      omega
    unfold shape
    dsimp only
    rw [cb, if_neg no, gf, tight_self ch]
    have eg : (nmS [] (plainC [] F.bds ++ ((F.gone.filter fun x => !decide (x ∈ lostC [] F.bds)).map .forget ++ F.front.reverse.map .touch))).filter (fun x => !decide (x ∈ F.front)) = F.gone := by
      refine setS_ext (List.Pairwise.filter _ (setS_nm .nil)) h.gset fun x => ?_
      rw [List.mem_filter, nmS_app, mem_nmS, p3 x, nms_app, nms_fg, nms_tc, List.mem_append, List.mem_filter, List.mem_reverse]
      constructor
      · rintro ⟨q, n⟩
        have nf : x ∉ F.front := by simpa using n
        rcases q with q | q | q
        · rcases (p4 x).mp q with z | ⟨b, hb, z⟩
          · cases z
          · exact ((bo b hb).2 x z).resolve_left nf
        · exact q.1
        · exact absurd q nf
      · intro q
        refine ⟨?_, by simp [h.gfr x q]⟩
        by_cases z : x ∈ lostC [] F.bds
        · exact .inl z
        · exact .inr (.inl ⟨q, by simp [z]⟩)
    rw [eg]
/-! ### again and again -/
theorem keeps_idem {f : List Lim} {N : List Str} : ∀ {r pre : List Str}, (∀ x ∈ r, x ∉ N) → keeps f N pre (keeps f N pre r) = keeps f N pre r
  | [], _, _ => rfl
  | x :: r, pre, h => by
    have hx : x ∉ N := h x (List.mem_cons_self ..)
    cases e : okL f (pre ++ [x]) with
    | true =>
      have e1 : keeps f N pre (x :: r) = x :: keeps f N (pre ++ [x]) r := by rw [keeps, if_pos (by simp [hx, e])]
      rw [e1, keeps, if_pos (by simp [hx, e]), keeps_idem fun y hy => h y (List.mem_cons_of_mem _ hy)]
    | false =>
      have e1 : keeps f N pre (x :: r) = [] := by rw [keeps, if_neg (by simp [e]), keeps_none e]
      rw [e1]
      rfl
theorem keeps_named {f : List Lim} {N : List Str} : ∀ {r pre : List Str}, (∀ x ∈ r, x ∈ N) → keeps f N pre r = []
  | [], _, _ => rfl
  | x :: r, pre, h => by
    rw [keeps, if_neg (by simp [h x (List.mem_cons_self ..)])]
    exact keeps_named fun y hy => h y (List.mem_cons_of_mem _ hy)
theorem keeps_nodup {f : List Lim} {N : List Str} : ∀ {r pre : List Str}, r.Nodup → (keeps f N pre r).Nodup
  | [], _, _ => .nil
  | x :: r, pre, h => by
    have h1 := List.nodup_cons.mp h
    rw [keeps]
    split
    · exact List.nodup_cons.mpr ⟨fun z => h1.1 (keeps_sub x z).1, keeps_nodup h1.2⟩
    · exact keeps_nodup h1.2
theorem shown_thrice {F : Form} (h : FOk F) (row : List Str) : shownF F (shownF F (shownF F row)) = shownF F (shownF F row) := by
  by_cases c : F.bds = conB
  · rw [shown_con c, shown_con c]
  · have key : ∀ r : List Str, (∀ x ∈ r, x ∉ F.front ++ F.gone) → shownF F (F.front ++ r) = F.front ++ keeps F.bds (F.front ++ F.gone) F.front r := fun r hr => by
      rw [shown_chain c, keeps_app, keeps_named (fun x hx => List.mem_append_left _ hx), List.nil_append, List.nil_append]
    have h1 : ∀ x ∈ keeps F.bds (F.front ++ F.gone) [] row, x ∉ F.front ++ F.gone := fun x hx => (keeps_sub x hx).2
    rw [shown_chain c row, key _ h1, key _ fun x hx => (keeps_sub x hx).2, keeps_idem h1]
end TC
/-! XS: how programs compute, for simp; loops and comprehensions over known lists -/
namespace TC
open PySem PySem.Spec PyProof.Rows L2
variable [Cl]
section
variable {pe : PEnv} {xe : XEnv} {i j n k : Nat} {a b c : XE} {r : XA} {t u : XT} {x y : XX} {p q : Pv} {g : GA} {g1 g2 : X2}
@[simp] theorem xVar_0 {r : PEnv} : xVar 0 (some p :: r) = .ret p := rfl
@[simp] theorem xVar_1 {o0 : Option Pv} {r : PEnv} : xVar 1 (o0 :: some p :: r) = .ret p := rfl
@[simp] theorem xVar_2 {o0 o1 : Option Pv} {r : PEnv} : xVar 2 (o0 :: o1 :: some p :: r) = .ret p := rfl
@[simp] theorem xVar_3 {o0 o1 o2 : Option Pv} {r : PEnv} : xVar 3 (o0 :: o1 :: o2 :: some p :: r) = .ret p := rfl
@[simp] theorem xVar_4 {o0 o1 o2 o3 : Option Pv} {r : PEnv} : xVar 4 (o0 :: o1 :: o2 :: o3 :: some p :: r) = .ret p := rfl
@[simp] theorem xVar_5 {o0 o1 o2 o3 o4 : Option Pv} {r : PEnv} : xVar 5 (o0 :: o1 :: o2 :: o3 :: o4 :: some p :: r) = .ret p := rfl
@[simp] theorem xVar_6 {o0 o1 o2 o3 o4 o5 : Option Pv} {r : PEnv} : xVar 6 (o0 :: o1 :: o2 :: o3 :: o4 :: o5 :: some p :: r) = .ret p := rfl
@[simp] theorem xVar_7 {o0 o1 o2 o3 o4 o5 o6 : Option Pv} {r : PEnv} : xVar 7 (o0 :: o1 :: o2 :: o3 :: o4 :: o5 :: o6 :: some p :: r) = .ret p := rfl
@[simp] theorem xVar_8 {o0 o1 o2 o3 o4 o5 o6 o7 : Option Pv} {r : PEnv} : xVar (i + 8) (o0 :: o1 :: o2 :: o3 :: o4 :: o5 :: o6 :: o7 :: r) = xVar i r := rfl
@[simp] theorem xC_s : xC p pe = .ret p := rfl
@[simp] theorem xNil_s : xNil pe = .ret [] := rfl
@[simp] theorem xCons_s : xCons a r pe = (a pe).bind fun p => (r pe).bind fun ps => .ret (p :: ps) := rfl
@[simp] theorem xStar_s : xStar a r pe = (a pe).bind fun p => (match p with
  | .lst l => (r pe).bind fun ps => .ret (l ++ ps)
  | .tup l => (r pe).bind fun ps => .ret (l ++ ps)
  | _ => .fail) := rfl
@[simp] theorem xTup_s : xTup r pe = (r pe).bind fun ps => .ok (sz ps.length) (.ret (.tup ps)) := rfl
@[simp] theorem xLst_s : xLst r pe = (r pe).bind fun ps => .ok (sz ps.length) (.ret (.lst ps)) := rfl
@[simp] theorem xBin_s : xBin g1 a b pe = (a pe).bind fun p => (b pe).bind fun q => g1 p q := rfl
@[simp] theorem xMap_s {f : Pv → Tr Pv} : xMap f a pe = (a pe).bind f := rfl
@[simp] theorem xCall_s : xCall g r pe = (r pe).bind g := rfl
@[simp] theorem xCallK_s {f : List Pv → List Pv} : xCallK n f g r pe = (r pe).bind fun ps => .ok (ps.length == n) (g (f ps)) := rfl
@[simp] theorem xAndV_s : xAndV a b pe = (a pe).bind fun p => (asB p).bind fun c => if c = true then b pe else .ret (.bl false) := rfl
@[simp] theorem xOrV_s : xOrV a b pe = (a pe).bind fun p => (asB p).bind fun c => if c = true then .ret (.bl true) else b pe := rfl
@[simp] theorem xNotV_s : xNotV a pe = (a pe).bind fun p => (asB p).bind fun c => .ret (.bl (!c)) := rfl
@[simp] theorem xOrT_s : xOrT a b pe = (a pe).bind fun p => (truP p).bind fun c => if c = true then .ret p else b pe := rfl
@[simp] theorem xIsN_s {neg : Bool} : xIsN neg a pe = (a pe).bind fun p => .ret (.bl (isNon p != neg)) := rfl
@[simp] theorem xB_s : xB a pe = (a pe).bind asB := rfl
@[simp] theorem xAnd_s : xAnd t u pe = (t pe).bind fun c => if c = true then u pe else .ret false := rfl
@[simp] theorem xOr_s : xOr t u pe = (t pe).bind fun c => if c = true then .ret true else u pe := rfl
@[simp] theorem xNot_s : xNot t pe = (t pe).bind fun c => .ret (!c) := rfl
@[simp] theorem xTru_s : xTru a pe = (a pe).bind truP := rfl
@[simp] theorem xYes_s : xYes pe = .ret true := rfl
@[simp] theorem xIf_s : xIf t a b pe = (t pe).bind fun k => if k = true then a pe else b pe := rfl
@[simp] theorem xChain_s : xChain g1 g2 a b c pe = (a pe).bind fun p => (b pe).bind fun q => (g1 p q).bind fun z => (asB z).bind fun k => if k = true then (c pe).bind fun r => g2 q r else .ret (.bl false) := rfl
@[simp] theorem xNo_s : xNo pe = .ret none := rfl
@[simp] theorem xSo_s : xSo a pe = (a pe).bind fun p => (match p with | .int i => .ret (some i) | _ => .fail) := rfl
@[simp] theorem xSl_s {lo hi : XO} : xSl a lo hi pe = (a pe).bind fun p => (lo pe).bind fun l => (hi pe).bind fun u => gSl p l u := rfl
@[simp] theorem asB_s {b : Bool} : asB (.bl b) = .ret b := rfl
@[simp] theorem asS_s {z : Str} : asS (.str z) = .ret z := rfl
@[simp] theorem xItL_s : xItL a pe = (a pe).bind fun p => (match p with | .lst l => .ret l | _ => .fail) := rfl
@[simp] theorem xItT_s : xItT a pe = (a pe).bind fun p => (match p with | .tup l => .ret l | _ => .fail) := rfl
@[simp] theorem xItV_s : xItV i pe = (xVar i pe).bind itP := rfl
@[simp] theorem xItR_s : xItR a pe = (a pe).bind fun p => (match p with | .int (.ofNat n) => .ok (decide (n < 2 ^ 62)) (.ret (natsP n)) | _ => .fail) := rfl
@[simp] theorem xItZ_s : xItZ a b pe = (a pe).bind fun p => (b pe).bind fun q => zipP p q := rfl
@[simp] theorem itP_l {l : List Pv} : itP (.lst l) = .ret l := rfl
@[simp] theorem itP_t {l : List Pv} : itP (.tup l) = .ret l := rfl
@[simp] theorem itP_s {z : Str} : itP (.str z) = .ret (signsP z) := rfl
@[simp] theorem xLc_s {it : XA} {f : XG} {vs : List Nat} : xLc it f t a vs pe = (it pe).bind fun ps => .ok (sz ps.length) ((xLcL f t a (wipeP pe vs) ps).bind fun ys => .ret (.lst ys)) := rfl
@[simp] theorem xMeth_s : xMeth n g a r pe = (a pe).bind fun p => (match p with
  | .obj k l => if k = n then (r pe).bind fun ps => g (.obj k l :: ps) else .fail
  | _ => .fail) := rfl
@[simp] theorem xMake_s {f : GI} : xMake n f r pe = (r pe).bind fun ps => (f ps).bind fun fs => .ret (.obj n fs) := rfl
@[simp] theorem gFld_0 {l : List Pv} : gFld n 0 (.obj n (p :: l)) = .ret p := by unfold gFld; dsimp only; rw [if_pos rfl]; rfl
@[simp] theorem gFld_1 {l : List Pv} : gFld n 1 (.obj n (q :: p :: l)) = .ret p := by unfold gFld; dsimp only; rw [if_pos rfl]; rfl
@[simp] theorem bind_assoc {α β γ : Type} : ∀ {t : Tr α} {f : α → Tr β} {g : β → Tr γ}, (t.bind f).bind g = t.bind fun a => (f a).bind g
  | .ret _, _, _ => rfl
  | .fail, _, _ => rfl
  | .draw n k, f, g => by
    show Tr.draw n (fun v => ((k v).bind f).bind g) = Tr.draw n fun v => (k v).bind fun a => (f a).bind g
    congr 1
    funext v
    exact bind_assoc
@[simp] theorem bind_ite {α β : Type} {c : Prop} [Decidable c] {s t : Tr α} {f : α → Tr β} : (if c then s else t).bind f = if c then s.bind f else t.bind f := by split <;> rfl
@[simp] theorem bind_ok {α β : Type} {c : Bool} {s : Tr α} {f : α → Tr β} : (Tr.ok c s).bind f = Tr.ok c (s.bind f) := by cases c <;> rfl
theorem ok_dec {α : Type} {c : Prop} [Decidable c] {s : Tr α} (h : c) : Tr.ok (decide c) s = s := by rw [decide_eq_true h]; rfl
/-! texts that differ -/
theorem ne_ct : ¬ (("cap" : Str) = "touch") := by decide +kernel
theorem ne_cf : ¬ (("cap" : Str) = "forget") := by decide +kernel
theorem ne_tc : ¬ (("touch" : Str) = "cap") := by decide +kernel
theorem ne_tf : ¬ (("touch" : Str) = "forget") := by decide +kernel
theorem ne_fc : ¬ (("forget" : Str) = "cap") := by decide +kernel
theorem ne_ft : ¬ (("forget" : Str) = "touch") := by decide +kernel
/-! operators -/
@[simp] theorem gAdd_i {i j : Int} : gAdd (.int i) (.int j) = .ret (.int (i + j)) := rfl
@[simp] theorem gAdd_s {a b : Str} : gAdd (.str a) (.str b) = .ok (sz (a.length + b.length)) (.ret (.str (a ++ b))) := rfl
@[simp] theorem gAdd_l {a b : List Pv} : gAdd (.lst a) (.lst b) = .ok (sz (a.length + b.length)) (.ret (.lst (a ++ b))) := rfl
@[simp] theorem gAdd_t {a b : List Pv} : gAdd (.tup a) (.tup b) = .ok (sz (a.length + b.length)) (.ret (.tup (a ++ b))) := rfl
@[simp] theorem gSub_i {i j : Int} : gSub (.int i) (.int j) = .ret (.int (i - j)) := rfl
@[simp] theorem gMod_i {i j : Int} : gMod (.int i) (.int j) = .ok (decide (0 < j)) (.ret (.int (i % j))) := rfl
@[simp] theorem gFdiv_i {i j : Int} : gFdiv (.int i) (.int j) = .ok (decide (0 < j ∧ j < 2 ^ 30)) (.ret (.int (i / j))) := rfl
@[simp] theorem gLt_i {i j : Int} : gLt (.int i) (.int j) = .ret (.bl (decide (i < j))) := rfl
@[simp] theorem gLe_i {i j : Int} : gLe (.int i) (.int j) = .ret (.bl (decide (i ≤ j))) := rfl
@[simp] theorem gGt_i {i j : Int} : gGt (.int i) (.int j) = .ret (.bl (decide (i > j))) := rfl
@[simp] theorem gGe_i {i j : Int} : gGe (.int i) (.int j) = .ret (.bl (decide (i ≥ j))) := rfl
@[simp] theorem gMul_i {i j : Int} : gMul (.int i) (.int j) = .ok (cmul i j) (.ret (.int (i * j))) := rfl
@[simp] theorem gMul_l {l : List Pv} {k : Int} : gMul (.lst l) (.int k) = .ok (decide (0 ≤ k ∧ k < 2 ^ 63) && sz (l.length * k.toNat)) (.ret (.lst (List.replicate k.toNat l).flatten)) := rfl
@[simp] theorem gLeS_i {i j : Int} : gLeS (.int i) (.int j) = .ret (.bl (decide (i ≤ j))) := rfl
@[simp] theorem gLeS_s {i j : Str} : gLeS (.str i) (.str j) = .ret (.bl (!decide (j.cps.toList < i.cps.toList))) := rfl
@[simp] theorem gNeg_i {i : Int} : gNeg (.int i) = .ret (.int (-i)) := rfl
@[simp] theorem gRev_l {l : List Pv} : gRev (.lst l) = .ret (.lst l.reverse) := rfl
@[simp] theorem gRev_t {l : List Pv} : gRev (.tup l) = .ret (.tup l.reverse) := rfl
theorem eqF_str {a b : Str} : eqF (.str a) (.str b) = decide (a = b) := by
  unfold eqF
  rw [Pv.D, Pv.D]
  show decide (V.str a = V.str b) = _
  by_cases h : a = b
  · subst h; simp
  · simp [h]
theorem eqF_int {a b : Int} : eqF (.int a) (.int b) = decide (a = b) := by
  unfold eqF
  rw [Pv.D, Pv.D]
  show decide (V.int a = V.int b) = _
  by_cases h : a = b
  · subst h; simp
  · simp [h]
@[simp] theorem gEq_s {neg : Bool} {a b : Str} : gEq neg (.str a) (.str b) = .ret (.bl (if neg then !decide (a = b) else decide (a = b))) := by
  have : gEq neg (.str a) (.str b) = .ret (.bl (if neg then !eqF (.str a) (.str b) else eqF (.str a) (.str b))) := rfl
  rw [this, eqF_str]
@[simp] theorem gEq_i {neg : Bool} {a b : Int} : gEq neg (.int a) (.int b) = .ret (.bl (if neg then !decide (a = b) else decide (a = b))) := by
  have : gEq neg (.int a) (.int b) = .ret (.bl (if neg then !eqF (.int a) (.int b) else eqF (.int a) (.int b))) := rfl
  rw [this, eqF_int]
@[simp] theorem gEq_b {neg : Bool} {a b : Bool} : gEq neg (.bl a) (.bl b) = .ret (.bl (if neg then !decide (a = b) else decide (a = b))) := by
  cases a <;> cases b <;> cases neg <;> rfl
theorem inV_strs (a : Str) : ∀ l : List Str, inV (fv (Pv.str a).D) ((PDs (l.map Pv.str)).map fv) = decide (a ∈ l)
  | [] => rfl
  | b :: l => by
    have ih := inV_strs a l
    unfold inV at ih ⊢
    rw [List.map_cons, PDs, List.map_cons, List.any_cons, ih]
    have e : eqV (fv (Pv.str b).D) (fv (Pv.str a).D) = decide (a = b) := by
      rw [Pv.D, Pv.D]
      show (b == a) = _
      by_cases h : a = b
      · subst h; simp
      · have : ¬ b = a := fun z => h z.symm
        simp [h, this]
    rw [e]
    by_cases h : a = b <;> by_cases h2 : a ∈ l <;> simp [h, h2]
theorem flat_strs (l : List Str) : (PDs (l.map Pv.str)).all flatD = true := by
  rw [PDs_strs, List.all_eq_true]; intro d hd; obtain ⟨b, _, rfl⟩ := List.mem_map.mp hd; rfl
@[simp] theorem gIn_l {neg : Bool} {a : Str} {l : List Str} : gIn neg (.str a) (.lst (l.map Pv.str)) = .ret (.bl (if neg then !decide (a ∈ l) else decide (a ∈ l))) := by
  have : gIn neg (.str a) (.lst (l.map Pv.str)) = .ok (true && (PDs (l.map Pv.str)).all flatD) (.ret (.bl (if neg then !inV (fv (Pv.str a).D) ((PDs (l.map Pv.str)).map fv) else inV (fv (Pv.str a).D) ((PDs (l.map Pv.str)).map fv)))) := rfl
  rw [this, flat_strs, inV_strs]; rfl
@[simp] theorem gIn_t {neg : Bool} {a : Str} {l : List Str} : gIn neg (.str a) (.tup (l.map Pv.str)) = .ret (.bl (if neg then !decide (a ∈ l) else decide (a ∈ l))) := by
  have : gIn neg (.str a) (.tup (l.map Pv.str)) = .ok (true && (PDs (l.map Pv.str)).all flatD) (.ret (.bl (if neg then !inV (fv (Pv.str a).D) ((PDs (l.map Pv.str)).map fv) else inV (fv (Pv.str a).D) ((PDs (l.map Pv.str)).map fv)))) := rfl
  rw [this, flat_strs, inV_strs]; rfl
theorem sz_le {n : Nat} (h : n ≤ 16777216) : sz n = true := decide_eq_true h
@[simp] theorem gLen_l {l : List Pv} : gLen [.lst l] = .ret (.int (l.length : Nat)) := rfl
@[simp] theorem gLen_t {l : List Pv} : gLen [.tup l] = .ret (.int (l.length : Nat)) := rfl
@[simp] theorem gList_l {l : List Pv} : gList [.lst l] = .ret (.lst l) := rfl
@[simp] theorem gList_t {l : List Pv} : gList [.tup l] = .ret (.lst l) := rfl
@[simp] theorem gTuple_l {l : List Pv} : gTuple [.lst l] = .ret (.tup l) := rfl
@[simp] theorem gTuple_t {l : List Pv} : gTuple [.tup l] = .ret (.tup l) := rfl
@[simp] theorem gInt_i {i : Int} : gInt [.int i] = .ret (.int i) := rfl
@[simp] theorem gInt_b {k : Bool} : gInt [.bl k] = .ret (.int (if k then 1 else 0)) := rfl
@[simp] theorem gAll_b {l : List Bool} : gAll [.lst (l.map Pv.bl)] = .ret (.bl (l.all fun b => b)) := by unfold gAll; simp
@[simp] theorem gAny_b {l : List Bool} : gAny [.lst (l.map Pv.bl)] = .ret (.bl (l.any fun b => b)) := by unfold gAny; simp
@[simp] theorem gMax2_i {i j : Int} : gMax2 [.int i, .int j] = .ret (.int (if j > i then j else i)) := rfl
@[simp] theorem gMin2_i {i j : Int} : gMin2 [.int i, .int j] = .ret (.int (if j < i then j else i)) := rfl
@[simp] theorem gSortL_s {l : List Str} : gSortL [.lst (l.map Pv.str)] = .ok (decide (l.length < 64)) (.ret (.lst ((sortS l).map Pv.str))) := by unfold gSortL; simp
@[simp] theorem gSortT_s {l : List Str} : gSortT [.tup (l.map Pv.str)] = .ok (decide (l.length < 64)) (.ret (.lst ((sortS l).map Pv.str))) := by unfold gSortT; simp
@[simp] theorem gSortSetL_s {l : List Str} : gSortSetL (.lst (l.map Pv.str)) = .ok (decide (l.length < 64)) (.ret (.lst ((setOf l).map Pv.str))) := by unfold gSortSetL; simp
@[simp] theorem gSortSetT_s {l : List Str} : gSortSetT (.tup (l.map Pv.str)) = .ok (decide (l.length < 64)) (.ret (.lst ((setOf l).map Pv.str))) := by unfold gSortSetT; simp
@[simp] theorem truP_l {l : List Pv} : truP (.lst l) = .ret (!l.isEmpty) := rfl
@[simp] theorem truP_t {l : List Pv} : truP (.tup l) = .ret (!l.isEmpty) := rfl
@[simp] theorem truP_b {b : Bool} : truP (.bl b) = .ret b := rfl
/-! statements -/
@[simp] theorem pl_s {α : Type} {f : PEnv → Tr α} : pl f xe = f (vis xe) := rfl
@[simp] theorem rl_s : rl a xe = (a (all xe)).bind fun p => .ok (nolst p.D) (.ret p) := rfl
@[simp] theorem rlT_s : rlT t xe = t (all xe) := rfl
@[simp] theorem vis_nil : vis [] = [] := rfl
@[simp] theorem vis_p {r : XEnv} : vis (some (.p p) :: r) = some p :: vis r := rfl
@[simp] theorem vis_o {l : List Pv} {r : XEnv} : vis (some (.own l) :: r) = none :: vis r := rfl
@[simp low] theorem vis_c {o : Option XV} {r : XEnv} : vis (o :: r) = visS o :: vis r := rfl
@[simp] theorem vis_n {r : XEnv} : vis (none :: r) = none :: vis r := rfl
@[simp] theorem all_nil : all [] = [] := rfl
@[simp] theorem all_p {r : XEnv} : all (some (.p p) :: r) = some p :: all r := rfl
@[simp] theorem all_o {l : List Pv} {r : XEnv} : all (some (.own l) :: r) = some (.lst l) :: all r := rfl
@[simp] theorem all_n {r : XEnv} : all (none :: r) = none :: all r := rfl
variable {s s2 : XS} {ra : XXA} {tt : XXT}
@[simp] theorem xNilX_s : xNilX xe = .ret [] := rfl
@[simp] theorem xConsX_s : xConsX x ra xe = (x xe).bind fun p => (ra xe).bind fun ps => .ret (p :: ps) := rfl
@[simp] theorem xsNext_s : xsNext xe = .ret (.nx xe) := rfl
@[simp] theorem xsSeq_s : xsSeq s s2 xe = (s xe).bind fun o => (match o with | .nx xe2 => s2 xe2 | .rt p => .ret (.rt p)) := rfl
@[simp] theorem xsSet_s : xsSet i x xe = (x xe).bind fun p => .ret (.nx (xe.set i (some (.p p)))) := rfl
@[simp] theorem xsPar_s {is : List Nat} : xsPar is ra xe = (ra xe).bind fun ps => (match setsN XV.p is ps xe with | some xe2 => .ret (.nx xe2) | none => .fail) := rfl
@[simp] theorem xsAsg_s {f : XGM} : xsAsg x f xe = (x xe).bind fun p => (match f p xe with | some xe2 => .ret (.nx xe2) | none => .fail) := rfl
@[simp] theorem xsRet_s : xsRet x xe = (x xe).bind fun p => .ret (.rt p) := rfl
@[simp] theorem xsRetN_s : xsRetN xe = .ret (.rt .non) := rfl
@[simp] theorem xsDrop_s : xsDrop x xe = (x xe).bind fun _ => .ret (.nx xe) := rfl
@[simp] theorem xsIf_s : xsIf tt s s2 xe = (tt xe).bind fun k => if k = true then s xe else s2 xe := rfl
@[simp] theorem xsFor_s {it : XXA} {f : XGM} : xsFor it f s xe = (it xe).bind fun ps => xsForL f s ps xe := rfl
def ownAt (i : Nat) (xe : XEnv) : Tr (List Pv) := match xe[i]? with
  | some (some (.own l)) => .ret l
  | _ => .fail
@[simp] theorem ownAt_0 {l : List Pv} {r : XEnv} : ownAt 0 (some (.own l) :: r) = .ret l := rfl
@[simp] theorem ownAt_s {o : Option XV} {r : XEnv} : ownAt (i + 1) (o :: r) = ownAt i r := rfl
@[simp] theorem xsApp_s : xsApp i x xe = (ownAt i xe).bind fun l => (x xe).bind fun p => .ok (decide (l.length < sizeLine)) (.ret (.nx (xe.set i (some (.own (l ++ [p])))))) := by
  unfold xsApp ownAt
  cases h : xe[i]? with
  | none => rfl
  | some o => cases o with
    | none => rfl
    | some v => cases v <;> rfl
@[simp] theorem xsExt_s : xsExt i x xe = (ownAt i xe).bind fun l => (x xe).bind fun p => (match p with
    | .lst r => .ok (sz (l.length + r.length)) (.ret (.nx (xe.set i (some (.own (l ++ r))))))
    | _ => .fail) := by
  unfold xsExt ownAt
  cases h : xe[i]? with
  | none => rfl
  | some o => cases o with
    | none => rfl
    | some v => cases v <;> rfl
@[simp] theorem xsNew_s : xsNew i ra s xe = (ra xe).bind fun ps => .ok (sz ps.length) (s (xe.set i (some (.own ps)))) := rfl
@[simp] theorem xsNewAdd_s : xsNewAdd i x y s xe = (x xe).bind fun p => (y xe).bind fun q => (match p, q with
  | .lst l, .lst r => .ok (sz (l.length + r.length)) (s (xe.set i (some (.own (l ++ r)))))
  | _, _ => .fail) := rfl
@[simp] theorem xsNewL_s : xsNewL i x s xe = (x xe).bind fun p => (seqP p).bind fun l => s (xe.set i (some (.own l))) := rfl
@[simp] theorem seqP_l {l : List Pv} : seqP (.lst l) = .ret l := rfl
@[simp] theorem seqP_t {l : List Pv} : seqP (.tup l) = .ret l := rfl
@[simp] theorem xsPar2B_s : xsPar2B i j x s xe = (x xe).bind fun p => s ((xe.set i (some (.p p))).set j (some (.own []))) := rfl
@[simp] theorem xsPar2A_s : xsPar2A i j x s xe = (x xe).bind fun p => s ((xe.set i (some (.own []))).set j (some (.p p))) := rfl
@[simp] theorem xsPar2C_s : xsPar2C i j x s xe = (x xe).bind fun p => (seqP p).bind fun l => s ((xe.set i (some (.own l))).set j (some (.own []))) := rfl
@[simp] theorem xsPar3O_s : xsPar3O i j k x y s xe = (x xe).bind fun p => (y xe).bind fun q => s (((xe.set i (some (.p p))).set j (some (.p q))).set k (some (.own []))) := rfl
@[simp] theorem xsPar3N_s : xsPar3N i j k x s xe = (x xe).bind fun p => s (((xe.set i (some (.p p))).set j (some (.own []))).set k (some (.own []))) := rfl
@[simp] theorem xsRel_s : xsRel s xe = s (xe.map relS) := rfl
@[simp] theorem relS_n : relS none = none := rfl
@[simp] theorem relS_p : relS (some (.p p)) = some (.p p) := rfl
@[simp] theorem relS_o {l : List Pv} : relS (some (.own l)) = some (.p (.lst l)) := rfl
@[simp] theorem xListC_s : xListC i xe = (ownAt i xe).bind fun l => .ret (.lst l) := by
  unfold xListC ownAt
  cases h : xe[i]? with
  | none => rfl
  | some o => cases o with
    | none => rfl
    | some v => cases v <;> rfl
@[simp] theorem xItRX_s : xItRX x xe = (x xe).bind fun p => (match p with | .int (.ofNat n) => .ok (decide (n < 2 ^ 62)) (.ret (natsP n)) | _ => .fail) := rfl
@[simp] theorem asgN_s {β : Type} {f : Pv → β} {l : List (Option β)} : asgN f i p l = some (l.set i (some (f p))) := rfl
@[simp] theorem asgT_s {β : Type} {f : Pv → β} {l : List (Option β)} {is : List Nat} {ps : List Pv} : asgT f is (.tup ps) l = setsN f is ps l := rfl
@[simp] theorem setsN_nil {β : Type} {f : Pv → β} {l : List (Option β)} : setsN f [] [] l = some l := rfl
@[simp] theorem setsN_cons {β : Type} {f : Pv → β} {l : List (Option β)} {is : List Nat} {ps : List Pv} : setsN f (i :: is) (p :: ps) l = setsN f is ps (l.set i (some (f p))) := rfl
@[simp] theorem wipeP_nil : wipeP pe [] = pe := rfl
@[simp] theorem wipeP_cons {vs : List Nat} : wipeP pe (i :: vs) = (wipeP pe vs).set i none := rfl
@[simp] theorem isNon_n : isNon .non = true := rfl
@[simp] theorem isNon_i {i : Int} : isNon (.int i) = false := rfl
@[simp] theorem isNon_s {z : Str} : isNon (.str z) = false := rfl
@[simp] theorem isNon_l {l : List Pv} : isNon (.lst l) = false := rfl
@[simp] theorem isNon_t {l : List Pv} : isNon (.tup l) = false := rfl
@[simp] theorem isNon_o {l : List Pv} : isNon (.obj n l) = false := rfl
@[simp] theorem nolst_i {i : Int} : nolst (Pv.int i).D = true := rfl
@[simp] theorem nolst_s {z : Str} : nolst (Pv.str z).D = true := rfl
@[simp] theorem nolst_b {z : Bool} : nolst (Pv.bl z).D = true := rfl
@[simp] theorem nolst_n : nolst Pv.non.D = true := rfl
theorem xFn_s {ps : List Pv} (h : ps.length = k) : xFn n k s ps = ((s (ps.map (fun p => some (.p p)) ++ List.replicate (n - k) none)).bind fun o => match o with
  | .nx _ => .ret .non
  | .rt p => .ret p) := by unfold xFn; rw [h, beq_self_eq_true]; rfl
def outR (o : Out) : Tr Pv := match o with
  | .nx _ => .ret .non
  | .rt p => .ret p
@[simp] theorem outR_nx {xe : XEnv} : outR (.nx xe) = .ret .non := rfl
@[simp] theorem outR_rt {p : Pv} : outR (.rt p) = .ret p := rfl
@[simp] theorem xFn_0 : xFn n 0 s [] = (s (List.replicate (n - 0) none)).bind outR := rfl
@[simp] theorem xFn_1 {p0 : Pv} : xFn n 1 s [p0] = (s (some (.p p0) :: List.replicate (n - 1) none)).bind outR := rfl
@[simp] theorem xFn_2 {p0 p1 : Pv} : xFn n 2 s [p0, p1] = (s (some (.p p0) :: some (.p p1) :: List.replicate (n - 2) none)).bind outR := rfl
@[simp] theorem xFn_3 {p0 p1 p2 : Pv} : xFn n 3 s [p0, p1, p2] = (s (some (.p p0) :: some (.p p1) :: some (.p p2) :: List.replicate (n - 3) none)).bind outR := rfl
@[simp] theorem xFn_4 {p0 p1 p2 p3 : Pv} : xFn n 4 s [p0, p1, p2, p3] = (s (some (.p p0) :: some (.p p1) :: some (.p p2) :: some (.p p3) :: List.replicate (n - 4) none)).bind outR := rfl
@[simp] theorem xFn_5 {p0 p1 p2 p3 p4 : Pv} : xFn n 5 s [p0, p1, p2, p3, p4] = (s (some (.p p0) :: some (.p p1) :: some (.p p2) :: some (.p p3) :: some (.p p4) :: List.replicate (n - 5) none)).bind outR := rfl
/-! comprehensions and loops over known lists -/
theorem xLcL_map {α : Type} {f : XG} {c : α → Pv} (d : α → Pv) (ok : α → Bool) : ∀ l : List α, (∀ z ∈ l, ∃ pe2, f (c z) pe = some pe2 ∧ t pe2 = .ret (ok z) ∧ (ok z = true → a pe2 = .ret (d z))) → xLcL f t a pe (l.map c) = .ret ((l.filter ok).map d)
  | [], _ => rfl
  | z :: l, h => by
    obtain ⟨pe2, h1, h2, h3⟩ := h z (List.mem_cons_self ..)
    have ih := xLcL_map d ok l fun y hy => h y (List.mem_cons_of_mem _ hy)
    rw [List.map_cons, xLcL, h1]
    dsimp only
    rw [h2, Tr.bind_ret, List.filter_cons]
    cases e : ok z with
    | true => rw [if_pos rfl, if_pos rfl, h3 e, Tr.bind_ret, ih]; rfl
    | false => rw [if_neg Bool.false_ne_true, if_neg Bool.false_ne_true, ih]
theorem xLcL_all {α : Type} {f : XG} {c : α → Pv} (d : α → Pv) (l : List α) (h : ∀ z ∈ l, ∃ pe2, f (c z) pe = some pe2 ∧ t pe2 = .ret true ∧ a pe2 = .ret (d z)) : xLcL f t a pe (l.map c) = .ret (l.map d) := by
  have := xLcL_map (c := c) d (fun _ => true) l fun z hz => by obtain ⟨pe2, h1, h2, h3⟩ := h z hz; exact ⟨pe2, h1, h2, fun _ => h3⟩
  rw [this, List.filter_eq_self.mpr fun _ _ => rfl]
/-- I: of what has been gone through -/
theorem forL_ret {α : Type} {f : XGM} {c : α → Pv} (l : List α) (I : List α → XEnv → Prop) (h0 : I [] xe)
    (step : ∀ A z B xe, l = A ++ z :: B → I A xe → ∃ xe2 xe3, f (c z) xe = some xe2 ∧ s xe2 = .ret (.nx xe3) ∧ I (A ++ [z]) xe3) : ∃ xe2, xsForL f s (l.map c) xe = .ret (.nx xe2) ∧ I l xe2 := by
  have aux : ∀ (B A : List α) (xe : XEnv), l = A ++ B → I A xe → ∃ xe2, xsForL f s (B.map c) xe = .ret (.nx xe2) ∧ I l xe2 := by
    intro B
    induction B with
    | nil => intro A xe e h; rw [List.append_nil] at e; exact ⟨xe, rfl, by rw [e]; exact h⟩
    | cons z B ih =>
      intro A xe e h
      obtain ⟨xe2, xe3, h1, h2, h3⟩ := step A z B xe e h
      obtain ⟨xe4, h4, h5⟩ := ih (A ++ [z]) xe3 (by rw [e]; simp) h3
      refine ⟨xe4, ?_, h5⟩
      rw [List.map_cons, xsForL, h1]
      dsimp only
      rw [h2, Tr.bind_ret]
      exact h4
  exact aux l [] xe rfl h0
theorem forL_wp {α : Type} {f : XGM} {c : α → Pv} {m : Nat} (l : List α) (I : List α → XEnv → Nat → Prop) (R : Pv → Nat → Prop) (h0 : I [] xe m)
    (step : ∀ A z B xe m, l = A ++ z :: B → I A xe m → ∃ xe2, f (c z) xe = some xe2 ∧ (s xe2).wp m fun o m1 => match o with | .nx xe3 => I (A ++ [z]) xe3 m1 | .rt p => R p m1) :
    (xsForL f s (l.map c) xe).wp m fun o m1 => match o with | .nx xe2 => I l xe2 m1 | .rt p => R p m1 := by
  have aux : ∀ (B A : List α) (xe : XEnv) (m : Nat), l = A ++ B → I A xe m → (xsForL f s (B.map c) xe).wp m fun o m1 => match o with | .nx xe2 => I l xe2 m1 | .rt p => R p m1 := by
    intro B
    induction B with
    | nil => intro A xe m e h; rw [List.append_nil] at e; subst e; exact h
    | cons z B ih =>
      intro A xe m e h
      obtain ⟨xe2, h1, h2⟩ := step A z B xe m e h
      rw [List.map_cons, xsForL, h1]
      dsimp only
      refine Tr.wp_bind.mpr (h2.mono fun o m1 q => ?_)
      cases o with
      | nx xe3 => exact ih (A ++ [z]) xe3 m1 (by rw [e]; simp) q
      | rt p => exact q
  exact aux l [] xe m rfl h0
theorem wp_ret {α : Type} {a : α} {m : Nat} {Q : α → Nat → Prop} (h : Q a m) : (Tr.ret a).wp m Q := h
theorem wp_draw {α : Type} {f : Nat → Tr α} {m : Nat} {Q : α → Nat → Prop} (h0 : 0 < m) (h : ∀ v, v < n → (f v).wp (m - 1) Q) : (Tr.draw n f).wp m Q := ⟨h0, h⟩
end
end TC
/-! XS2: nested data that == tells apart just so; the same at every depth -/
namespace TC
open PySem PySem.Spec PyProof.Rows L2
variable [Cl]
/-- texts, numbers, None, lists and tuples of such, at most so deep -/
def nice : Nat → Pv → Bool
  | _, .non => true
  | _, .int _ => true
  | _, .str s => PyData.strOk s
  | n + 1, .lst l => l.all (nice n)
  | n + 1, .tup l => l.all (nice n)
  | _, _ => false
theorem nice_up : ∀ {n : Nat} {p : Pv}, nice n p = true → ∀ k, nice (n + k) p = true
  | _, .non, _, _ => by unfold nice; rfl
  | _, .int _, _, _ => by unfold nice; rfl
  | _, .str s, h, _ => by unfold nice at h ⊢; exact h
  | 0, .lst l, h, k => by unfold nice at h; cases h
  | 0, .tup l, h, k => by unfold nice at h; cases h
  | n + 1, .lst l, h, k => by
    rw [Nat.add_right_comm]
    unfold nice at h ⊢
    rw [List.all_eq_true] at h ⊢
    exact fun x hx => nice_up (h x hx) k
  | n + 1, .tup l, h, k => by
    rw [Nat.add_right_comm]
    unfold nice at h ⊢
    rw [List.all_eq_true] at h ⊢
    exact fun x hx => nice_up (h x hx) k
  | _, .bl _, h, _ => by unfold nice at h; cases h
  | _, .obj _ _, h, _ => by unfold nice at h; cases h
  | _, .urn, h, _ => by unfold nice at h; cases h
  | _, .dct _, h, _ => by unfold nice at h; cases h
theorem nice_le {n m : Nat} {p : Pv} (h : nice n p = true) (l : n ≤ m) : nice m p = true := by
  obtain ⟨k, rfl⟩ := Nat.le.dest l
  exact nice_up h k
theorem nice_tidy : ∀ {n : Nat} {p : Pv}, nice n p = true → tidy n p.D = true ∧ nob p.D = true
  | _, .non, _ => by rw [Pv.D]; exact ⟨tidy_non, rfl⟩
  | _, .int _, _ => by rw [Pv.D]; exact ⟨tidy_int, rfl⟩
  | _, .str s, h => by unfold nice at h; rw [Pv.D]; exact ⟨tidy_str h, rfl⟩
  | 0, .lst l, h => by unfold nice at h; cases h
  | 0, .tup l, h => by unfold nice at h; cases h
  | n + 1, .lst l, h => by
    unfold nice at h
    rw [List.all_eq_true] at h
    have hh : ∀ d ∈ PDs l, tidy n d = true ∧ nob d = true := fun d hd => by
      rw [PDs_map] at hd
      obtain ⟨q, hq, rfl⟩ := List.mem_map.mp hd
      exact nice_tidy (h q hq)
    rw [Pv.D]
    exact ⟨tidy_lst (tidyL_of fun d hd => (hh d hd).1), by rw [nob]; exact nobL_of fun d hd => (hh d hd).2⟩
  | n + 1, .tup l, h => by
    unfold nice at h
    rw [List.all_eq_true] at h
    have hh : ∀ d ∈ PDs l, tidy n d = true ∧ nob d = true := fun d hd => by
      rw [PDs_map] at hd
      obtain ⟨q, hq, rfl⟩ := List.mem_map.mp hd
      exact nice_tidy (h q hq)
    rw [Pv.D]
    exact ⟨tidy_tup (tidyL_of fun d hd => (hh d hd).1), by rw [nob]; exact nobL_of fun d hd => (hh d hd).2⟩
  | _, .bl _, h => by unfold nice at h; cases h
  | _, .obj _ _, h => by unfold nice at h; cases h
  | _, .urn, h => by unfold nice at h; cases h
  | _, .dct _, h => by unfold nice at h; cases h
where
  nobL_of : ∀ {l : List D}, (∀ d ∈ l, nob d = true) → nobL l = true
    | [], _ => rfl
    | d :: l, h => by rw [nobL, h d (List.mem_cons_self ..), nobL_of fun e he => h e (List.mem_cons_of_mem _ he)]; rfl
mutual
theorem PvD_inj : ∀ {p q : Pv}, p.D = q.D → p = q
  | .non, q, h => by cases q <;> simp [Pv.D] at h ⊢
  | .bl b, q, h => by cases q <;> simp [Pv.D] at h ⊢; exact h
  | .int b, q, h => by cases q <;> simp [Pv.D] at h ⊢; exact h
  | .str b, q, h => by cases q <;> simp [Pv.D] at h ⊢; exact h
  | .lst l, q, h => by
    cases q with
    | lst r => simp [Pv.D] at h ⊢; exact PDs_inj h
    | _ => simp [Pv.D] at h
  | .tup l, q, h => by
    cases q with
    | tup r => simp [Pv.D] at h ⊢; exact PDs_inj h
    | _ => simp [Pv.D] at h
  | .obj c l, q, h => by
    cases q with
    | obj d r => simp [Pv.D] at h ⊢; exact ⟨h.1, PDs_inj h.2⟩
    | _ => simp [Pv.D] at h
  | .urn, q, h => by cases q <;> simp [Pv.D] at h ⊢
  | .dct b, q, h => by cases q <;> simp [Pv.D] at h ⊢; exact h
theorem PDs_inj : ∀ {l r : List Pv}, PDs l = PDs r → l = r
  | [], r, h => by cases r <;> simp [PDs] at h ⊢
  | p :: l, r, h => by
    cases r with
    | nil => simp [PDs] at h
    | cons q r =>
      simp [PDs] at h
      rw [PvD_inj h.1, PDs_inj h.2]
end
theorem flat_nice {n : Nat} {p : Pv} (h : nice n p = true) (f : flatD p.D = true) : p = .non ∨ (∃ i, p = .int i) ∨ ∃ s, p = .str s := by
  cases p with
  | non => exact .inl rfl
  | int i => exact .inr (.inl ⟨i, rfl⟩)
  | str s => exact .inr (.inr ⟨s, rfl⟩)
  | bl b => unfold nice at h; cases h
  | lst l => rw [Pv.D] at f; cases f
  | tup l => rw [Pv.D] at f; cases f
  | obj c l => rw [Pv.D] at f; cases f
  | urn => rw [Pv.D] at f; cases f
  | dct l => rw [Pv.D] at f; cases f
theorem eqF_nice {n m : Nat} {p q : Pv} (h : nice n p = true) (g : nice m q = true) (f1 : flatD p.D = true) (f2 : flatD q.D = true) : (scal (fv p.D) (fv q.D) = true) ∧ (eqF p q = true ↔ p = q) := by
  rcases flat_nice h f1 with rfl | ⟨i, rfl⟩ | ⟨s, rfl⟩ <;> rcases flat_nice g f2 with rfl | ⟨j, rfl⟩ | ⟨t, rfl⟩ <;> refine ⟨rfl, ?_⟩ <;> unfold eqF <;> simp [Pv.D, fv]
theorem gEq_iff {n m : Nat} {p q : Pv} {c : Prop} [Decidable c] {neg : Bool} (hp : nice n p = true) (hq : nice m q = true) (hn : n ≤ 60) (hm : m ≤ 60) (h : p = q ↔ c) : gEq neg p q = .ret (.bl (if neg then !decide c else decide c)) := by
  unfold gEq gOr
  by_cases f : flat2 p q = true
  · rw [if_pos f]
    unfold gEqF
    rw [f]
    unfold flat2 at f
    simp only [Bool.and_eq_true] at f
    have e : eqF p q = decide c := by
      rw [Bool.eq_iff_iff, decide_eq_true_eq, ← h]
      exact (eqF_nice hp hq f.1.1 f.1.2).2
    rw [e]; rfl
  · rw [if_neg f]
    unfold gEqD
    rw [(show tidy 60 p.D = true from tidy_mono (nice_tidy hp).1 hn), (show tidy 60 q.D = true from tidy_mono (nice_tidy hq).1 hm)]
    have e : eqD p.D q.D = decide c := by
      rw [Bool.eq_iff_iff, decide_eq_true_eq, ← h]
      have k1 := (tidy_shaped (nice_tidy hp).1 (by omega)).1
      have k2 := (tidy_shaped (nice_tidy hq).1 (by omega)).1
      exact (eqD_iff k1 k2 (nice_tidy hp).2 (nice_tidy hq).2).trans ⟨PvD_inj, fun e => by rw [e]⟩
    rw [e]; rfl
theorem nice_strs {n : Nat} {l : List Str} (h : ∀ z ∈ l, PyData.strOk z = true) : nice (n + 1) (.tup (l.map Pv.str)) = true ∧ nice (n + 1) (.lst (l.map Pv.str)) = true := by
  unfold nice
  rw [List.all_eq_true]
  have : ∀ x ∈ l.map Pv.str, nice n x = true := fun x hx => by
    obtain ⟨z, hz, rfl⟩ := List.mem_map.mp hx
    unfold nice; exact h z hz
  exact ⟨this, this⟩
def BdOk (b : Bd) : Prop := ∀ z ∈ b.1, PyData.strOk z = true
theorem nice_bnd {n : Nat} {b : Bd} (h : BdOk b) : nice (n + 2) (bnd b) = true := by
  unfold bnd nice
  simp only [List.all_cons, List.all_nil, Bool.and_true, Bool.and_eq_true]
  exact ⟨(nice_strs h).1, by unfold nice; rfl⟩
theorem nice_bnds {n : Nat} {l : List Bd} (h : ∀ b ∈ l, BdOk b) : nice (n + 3) (.tup (l.map bnd)) = true ∧ nice (n + 3) (.lst (l.map bnd)) = true := by
  unfold nice
  rw [List.all_eq_true]
  have : ∀ x ∈ l.map bnd, nice (n + 2) x = true := fun x hx => by
    obtain ⟨z, hz, rfl⟩ := List.mem_map.mp hx
    exact nice_bnd (h z hz)
  exact ⟨this, this⟩
theorem strs_inj : ∀ {l r : List Str}, l.map Pv.str = r.map Pv.str → l = r
  | [], [], _ => rfl
  | [], _ :: _, h => by simp at h
  | _ :: _, [], h => by simp at h
  | a :: l, b :: r, h => by
    simp at h
    rw [h.1, strs_inj h.2]
theorem bnd_inj {b c : Bd} (h : bnd b = bnd c) : b = c := by
  obtain ⟨n, k⟩ := b; obtain ⟨n2, k2⟩ := c
  simp [bnd] at h
  rw [strs_inj h.1, h.2]
theorem bnds_inj : ∀ {l r : List Bd}, l.map bnd = r.map bnd → l = r
  | [], [], _ => rfl
  | [], _ :: _, h => by simp at h
  | _ :: _, [], h => by simp at h
  | a :: l, b :: r, h => by
    simp at h
    rw [bnd_inj h.1, bnds_inj h.2]
theorem gEq_bnil {neg : Bool} {l : List Bd} (h : ∀ b ∈ l, BdOk b) : gEq neg (.lst (l.map bnd)) (.lst []) = .ret (.bl (if neg then !decide (l = []) else decide (l = []))) :=
  gEq_iff (n := 3) (m := 3) (nice_bnds h).2 rfl (by decide) (by decide) (by simp)
/-! the last item -/
theorem atI_last {α : Type} {l : List α} {x : α} : atI (l ++ [x]) (-1) = some x := by
  have e : ixN (l ++ [x]).length (-1) = some l.length := by
    unfold ixN
    rw [if_neg (by decide), if_pos (by simp; omega)]
    congr 1
    simp
    omega
  unfold atI
  rw [e]
  simp
@[simp] theorem gIx_last {l : List Pv} {x : Pv} : gIx (.lst (l ++ [x])) (.int (-1)) = .ret x := by
  unfold gIx; dsimp only; rw [atI_last]
@[simp] theorem gIx_t0 {l : List Pv} {x : Pv} : gIx (.tup (x :: l)) (.int 0) = .ret x := by
  unfold gIx; dsimp only
  have : atI (x :: l) 0 = some x := by unfold atI ixN; simp
  rw [this]
@[simp] theorem gIx_t1 {l : List Pv} {x y : Pv} : gIx (.tup (y :: x :: l)) (.int 1) = .ret x := by
  unfold gIx; dsimp only
  have : atI (y :: x :: l) 1 = some x := by
    have e : ixN (y :: x :: l).length 1 = some 1 := by unfold ixN; rw [if_pos (by decide), if_pos (by simp; omega)]; rfl
    unfold atI; rw [e]; rfl
  rw [this]
@[simp] theorem gIx_t2 {l : List Pv} {x y z : Pv} : gIx (.tup (z :: y :: x :: l)) (.int 2) = .ret x := by
  unfold gIx; dsimp only
  have : atI (z :: y :: x :: l) 2 = some x := by
    have e : ixN (z :: y :: x :: l).length 2 = some 2 := by unfold ixN; rw [if_pos (by decide), if_pos (by simp; omega)]; rfl
    unfold atI; rw [e]; rfl
  rw [this]
end TC
namespace TC
open PySem PySem.Spec PyProof.Rows L2
variable [Cl]
theorem nmS_len : ∀ {L : List Stp} {ns : List Str}, (nmS ns L).length ≤ ns.length + L.length
  | [], _ => Nat.le_refl _
  | .touch t :: L, ns => by
    have h1 := nmS_len (L := L) (ns := insS t ns)
    have h2 := insS_len (t := t) (l := ns)
    show (nmS (insS t ns) L).length ≤ _
    rw [List.length_cons]; omega
  | .forget t :: L, ns => by
    have h1 := nmS_len (L := L) (ns := insS t ns)
    have h2 := insS_len (t := t) (l := ns)
    show (nmS (insS t ns) L).length ≤ _
    rw [List.length_cons]; omega
  | .cap _ :: L, ns => by
    have h1 := nmS_len (L := L) (ns := ns)
    show (nmS ns L).length ≤ _
    rw [List.length_cons]; omega
theorem fallS_sub {acc : List Bd} {c : Bd} : ∀ b ∈ fallS acc c, b ∈ acc ∨ b = c := by
  intro b hb
  unfold fallS at hb
  split at hb
  · simpa using hb
  · split at hb
    · simpa using hb
    · exact .inl hb
theorem fall_sub : ∀ {bs acc : List Bd}, ∀ b ∈ bs.foldl fallS acc, b ∈ acc ∨ b ∈ bs
  | [], acc, b, hb => .inl hb
  | c :: bs, acc, b, hb => by
    rcases fall_sub (bs := bs) (acc := fallS acc c) b hb with h | h
    · rcases fallS_sub b h with h | rfl
      · exact .inl h
      · exact .inr (List.mem_cons_self ..)
    · exact .inr (List.mem_cons_of_mem _ h)
theorem fallS_len {acc : List Bd} {c : Bd} : (fallS acc c).length ≤ acc.length + 1 := by
  unfold fallS
  split
  · simp
  · split
    · simp
    · exact Nat.le_succ _
theorem fall_len : ∀ {bs acc : List Bd}, (bs.foldl fallS acc).length ≤ acc.length + bs.length
  | [], acc => Nat.le_refl _
  | c :: bs, acc => by
    have h1 := fall_len (bs := bs) (acc := fallS acc c)
    have h2 := fallS_len (acc := acc) (c := c)
    show (bs.foldl fallS (fallS acc c)).length ≤ _
    rw [List.length_cons]; omega
theorem keptS_sub {acc : List Bd} {c : Bd} : ∀ b ∈ keptS acc c, b ∈ acc ∨ b = c := by
  intro b hb
  unfold keptS at hb
  split at hb
  · simpa using hb
  · split at hb
    · simpa using hb
    · exact .inl hb
theorem kept_sub : ∀ {bs acc : List Bd}, ∀ b ∈ bs.foldl keptS acc, b ∈ acc ∨ b ∈ bs
  | [], acc, b, hb => .inl hb
  | c :: bs, acc, b, hb => by
    rcases kept_sub (bs := bs) (acc := keptS acc c) b hb with h | h
    · rcases keptS_sub b h with h | rfl
      · exact .inl h
      · exact .inr (List.mem_cons_self ..)
    · exact .inr (List.mem_cons_of_mem _ h)
theorem keptS_len {acc : List Bd} {c : Bd} : (keptS acc c).length ≤ acc.length + 1 := by
  unfold keptS
  split
  · simp
  · split
    · simp
    · exact Nat.le_succ _
theorem kept_len : ∀ {bs acc : List Bd}, (bs.foldl keptS acc).length ≤ acc.length + bs.length
  | [], acc => Nat.le_refl _
  | c :: bs, acc => by
    have h1 := kept_len (bs := bs) (acc := keptS acc c)
    have h2 := keptS_len (acc := acc) (c := c)
    show (bs.foldl keptS (keptS acc c)).length ≤ _
    rw [List.length_cons]; omega
theorem capB_len : ∀ {L : List Stp} {ns row : List Str}, (capB ns row L).length ≤ L.length
  | [], _, _ => Nat.le_refl _
  | .touch t :: L, ns, row => Nat.le_trans (capB_len (L := L)) (Nat.le_succ _)
  | .forget t :: L, ns, row => Nat.le_trans (capB_len (L := L)) (Nat.le_succ _)
  | .cap n :: L, ns, row => Nat.succ_le_succ (capB_len (L := L))
end TC
namespace TC
open PySem PySem.Spec PyProof.Rows L2
variable [Cl]
/-! ### the least number -/
def minI : List Int → Int
  | [] => 0
  | [a] => a
  | a :: b :: l => min a (minI (b :: l))
theorem minI_le : ∀ {l : List Int} {y : Int}, y ∈ l → minI l ≤ y
  | [a], y, h => by rw [List.mem_singleton.mp h]; exact Int.le_refl _
  | a :: b :: l, y, h => by
    show min a (minI (b :: l)) ≤ y
    rcases List.mem_cons.mp h with rfl | h
    · exact Int.min_le_left _ _
    · exact Int.le_trans (Int.min_le_right _ _) (minI_le h)
theorem minI_mem : ∀ {l : List Int}, l ≠ [] → minI l ∈ l
  | [], h => absurd rfl h
  | [a], _ => List.mem_singleton.mpr rfl
  | a :: b :: l, _ => by
    show min a (minI (b :: l)) ∈ a :: b :: l
    have ih := minI_mem (l := b :: l) (by simp)
    by_cases h : a ≤ minI (b :: l)
    · rw [Int.min_eq_left h]; exact List.mem_cons_self ..
    · rw [Int.min_eq_right (by omega)]; exact List.mem_cons_of_mem _ ih
theorem minI_eq {l : List Int} {x : Int} (h1 : x ∈ l) (h2 : ∀ y, y ∈ l → x ≤ y) : x = minI l :=
  Int.le_antisymm (h2 _ (minI_mem fun e => by rw [e] at h1; cases h1)) (minI_le h1)
/-- what a bound's number comes to beyond so many of its names -/
def redZ (k : Nat) (b : Bd) : Int := b.2 + (if (b.1.length : Int) - k > 0 then (b.1.length : Int) - k else 0)
def hgtB (bs : List Bd) (many : Nat) : Int := ((List.range (many + 1)).map fun k => minI (bs.map (redZ k))).sum - ((many + 1 : Nat) : Int)
def hgt (F : Form) : Option Int := if F.bds = [] ∨ F.bds = conB then none else some (hgtB F.bds (F.front.length + F.gone.length))
def oP : Option Int → Pv
  | none => .non
  | some i => .int i
theorem names_few {L : List Stp} (hl : L.length ≤ 62) : (shape L).front.length + (shape L).gone.length ≤ 62 := by
  have h := shape_ok L
  have nf : ∀ x ∈ (shape L).front, x ∈ nmS [] L := fun x hx => by
    obtain ⟨B, hB⟩ := capMax L
    exact mem_nmS.mpr (.inr ((shape_in (tags := nms L) (fun x hx => hx) hB).fr x hx))
  have ng : ∀ x ∈ (shape L).gone, x ∈ nmS [] L := fun x hx => by
    obtain ⟨B, hB⟩ := capMax L
    exact mem_nmS.mpr (.inr ((shape_in (tags := nms L) (fun x hx => hx) hB).go x hx))
  have nd : ((shape L).front ++ (shape L).gone).Nodup := by
    rw [List.nodup_append]
    refine ⟨h.fnd, SetS.nodup h.gset, fun a ha b hb e => ?_⟩
    subst e
    exact h.gfr a hb ha
  have := nd_len nd (r := nmS [] L) fun x hx => (List.mem_append.mp hx).elim (nf x) (ng x)
  rw [List.length_append] at this
  have h2 := nmS_len (L := L) (ns := [])
  rw [List.length_nil] at h2
  omega
theorem bds_few {L : List Stp} (hl : L.length ≤ 62) : (shape L).bds.length ≤ 1000 := by
  unfold shape
  dsimp only
  split
  · exact (show 1 ≤ 1000 by decide)
  · have h1 : (tightB (capB [] [] L)).length ≤ (capB [] [] L).length := by
      unfold tightB
      rw [List.length_reverse]
      refine Nat.le_trans kept_len ?_
      rw [List.length_reverse, List.length_nil, Nat.zero_add]
      refine Nat.le_trans fall_len ?_
      rw [List.length_nil, Nat.zero_add]
      exact Nat.le_refl _
    have h2 := capB_len (L := L) (ns := []) (row := [])
    show (tightB (capB [] [] L)).length ≤ 1000
    omega
/-- the names in the order of their first coming -/
def ordT : List Str → List Stp → List Str
  | acc, [] => acc
  | acc, .cap _ :: L => ordT acc L
  | acc, .touch t :: L => ordT (if t ∈ acc then acc else acc ++ [t]) L
  | acc, .forget t :: L => ordT (if t ∈ acc then acc else acc ++ [t]) L
theorem ordT_app : ∀ {L M : List Stp} {acc : List Str}, ordT acc (L ++ M) = ordT (ordT acc L) M
  | [], _, _ => rfl
  | .cap _ :: L, M, acc => ordT_app (L := L)
  | .touch _ :: L, M, acc => ordT_app (L := L)
  | .forget _ :: L, M, acc => ordT_app (L := L)
theorem ordT_len : ∀ {L : List Stp} {acc : List Str}, (ordT acc L).length ≤ acc.length + L.length
  | [], _ => Nat.le_refl _
  | .cap _ :: L, acc => Nat.le_trans (ordT_len (L := L)) (by rw [List.length_cons]; omega)
  | .touch t :: L, acc => by
    refine Nat.le_trans (ordT_len (L := L)) ?_
    rw [List.length_cons]
    split
    · omega
    · rw [List.length_append, List.length_singleton]; omega
  | .forget t :: L, acc => by
    refine Nat.le_trans (ordT_len (L := L)) ?_
    rw [List.length_cons]
    split
    · omega
    · rw [List.length_append, List.length_singleton]; omega
def redL (fs : List Str) (b : Bd) : Int := b.2 + (lack b.1 fs : Int)
def isCon (L : List Stp) : Bool := (capB [] [] L).any fun x => decide (x.2 < 1)
def hgtL (L : List Stp) : Option Int := if isCon L = true ∨ capB [] [] L = [] then none else some (((List.range ((ordT [] L).length + 1)).map fun k => minI ((capB [] [] L).map (redL ((ordT [] L).take k))) - 1).sum)
theorem two_filters {α : Type} (p : α → Bool) : ∀ l : List α, (l.filter p).length + (l.filter fun x => !p x).length = l.length
  | [] => rfl
  | a :: l => by
    have ih := two_filters p l
    by_cases h : p a = true
    · rw [List.filter_cons_of_pos h, List.filter_cons_of_neg (by simp [h]), List.length_cons, List.length_cons]; omega
    · rw [List.filter_cons_of_neg h, List.filter_cons_of_pos (by simp [h]), List.length_cons, List.length_cons]; omega
theorem ordT_pre : ∀ {L : List Stp} {acc : List Str}, ∃ r, ordT acc L = acc ++ r
  | [], acc => ⟨[], (List.append_nil acc).symm⟩
  | .cap _ :: L, acc => ordT_pre (L := L)
  | .touch t :: L, acc => by
    obtain ⟨r, h⟩ := ordT_pre (L := L) (acc := if t ∈ acc then acc else acc ++ [t])
    show ∃ r, ordT (if t ∈ acc then acc else acc ++ [t]) L = acc ++ r
    rw [h]
    by_cases ht : t ∈ acc
    · rw [if_pos ht]; exact ⟨r, rfl⟩
    · rw [if_neg ht]; exact ⟨[t] ++ r, by rw [List.append_assoc]⟩
  | .forget t :: L, acc => by
    obtain ⟨r, h⟩ := ordT_pre (L := L) (acc := if t ∈ acc then acc else acc ++ [t])
    show ∃ r, ordT (if t ∈ acc then acc else acc ++ [t]) L = acc ++ r
    rw [h]
    by_cases ht : t ∈ acc
    · rw [if_pos ht]; exact ⟨r, rfl⟩
    · rw [if_neg ht]; exact ⟨[t] ++ r, by rw [List.append_assoc]⟩
theorem acc_mem {t x : Str} {acc : List Str} : x ∈ (if t ∈ acc then acc else acc ++ [t]) ↔ x = t ∨ x ∈ acc := by
  by_cases ht : t ∈ acc
  · rw [if_pos ht]
    exact ⟨.inr, fun h => h.elim (fun e => by rw [e]; exact ht) id⟩
  · rw [if_neg ht, List.mem_append, List.mem_singleton]
    exact ⟨fun h => h.elim .inr .inl, fun h => h.elim .inr .inl⟩
theorem acc_nd {t : Str} {acc : List Str} (h : acc.Nodup) : (if t ∈ acc then acc else acc ++ [t]).Nodup := by
  by_cases ht : t ∈ acc
  · rw [if_pos ht]; exact h
  · rw [if_neg ht, List.nodup_append]
    exact ⟨h, by simp, fun a ha b hb e => by rw [List.mem_singleton] at hb; subst e; subst hb; exact ht ha⟩
theorem ordT_nd : ∀ {L : List Stp} {acc : List Str}, acc.Nodup → (ordT acc L).Nodup
  | [], _, h => h
  | .cap _ :: L, _, h => ordT_nd (L := L) h
  | .touch _ :: L, _, h => ordT_nd (L := L) (acc_nd h)
  | .forget _ :: L, _, h => ordT_nd (L := L) (acc_nd h)
theorem ordT_nm : ∀ {L : List Stp} {acc ns : List Str}, (∀ x, x ∈ acc ↔ x ∈ ns) → ∀ x, x ∈ ordT acc L ↔ x ∈ nmS ns L
  | [], _, _, h => h
  | .cap _ :: L, _, _, h => ordT_nm (L := L) h
  | .touch t :: L, acc, ns, h => ordT_nm (L := L) fun x => by rw [acc_mem, mem_insS, h x]
  | .forget t :: L, acc, ns, h => ordT_nm (L := L) fun x => by rw [acc_mem, mem_insS, h x]
/-- the names of each bound are the first so many -/
theorem capB_first : ∀ {L : List Stp} {ns h acc : List Str} {b : Bd}, (∀ x, x ∈ acc ↔ x ∈ ns) → b ∈ capB ns h L → ∃ j, j ≤ (ordT acc L).length ∧ ∀ x, x ∈ b.1 ↔ x ∈ (ordT acc L).take j
  | .cap n :: L, ns, h, acc, b, e, m => by
    rw [capB] at m
    rcases List.mem_cons.mp m with rfl | m
    · obtain ⟨r, hr⟩ := ordT_pre (L := L) (acc := acc)
      refine ⟨acc.length, ?_, fun x => ?_⟩
      · show acc.length ≤ (ordT acc L).length
        rw [hr, List.length_append]; omega
      · show x ∈ ns ↔ x ∈ (ordT acc L).take acc.length
        rw [hr, List.take_left, e x]
    · exact capB_first (L := L) e m
  | .touch t :: L, ns, h, acc, b, e, m => capB_first (L := L) (ns := insS t ns) (h := (Stp.touch t).go h) (acc := if t ∈ acc then acc else acc ++ [t]) (fun x => by rw [acc_mem, mem_insS, e x]) (by rw [capB] at m; exact m)
  | .forget t :: L, ns, h, acc, b, e, m => capB_first (L := L) (ns := insS t ns) (h := (Stp.forget t).go h) (acc := if t ∈ acc then acc else acc ++ [t]) (fun x => by rw [acc_mem, mem_insS, e x]) (by rw [capB] at m; exact m)
theorem take_lack {T : List Str} (nd : T.Nodup) {j k : Nat} (hj : j ≤ T.length) : ((T.take j).filter fun x => !decide (x ∈ T.take k)).length = j - k := by
  by_cases h : j ≤ k
  · rw [List.filter_eq_nil_iff.mpr fun x hx => ?_]
    · show 0 = j - k; omega
    · have : x ∈ T.take k := (List.take_sublist_take_left h).subset hx
      simp [this]
  · have e : T.take j = T.take k ++ (T.drop k).take (j - k) := by
      have : j = k + (j - k) := by omega
      rw [this, List.take_add]
      congr 2
      omega
    have nd2 : (T.take k ++ T.drop k).Nodup := by rw [List.take_append_drop]; exact nd
    rw [List.nodup_append] at nd2
    rw [e, List.filter_append, List.filter_eq_nil_iff.mpr fun x hx => by simp [hx], List.nil_append, List.filter_eq_self.mpr fun x hx => ?_]
    · rw [List.length_take, List.length_drop]; omega
    · have hx2 := List.mem_of_mem_take hx
      have : x ∉ T.take k := fun hk => nd2.2.2 x hk x hx2 rfl
      simp [this]
theorem redL_Z {L : List Stp} {b : Bd} (hb : b ∈ capB [] [] L) (k : Nat) : redL ((ordT [] L).take k) b = redZ k b := by
  obtain ⟨j, hj, hm⟩ := capB_first (acc := []) (fun x => Iff.rfl) hb
  have nT : (ordT [] L).Nodup := ordT_nd .nil
  have nb := SetS.nodup (capB_mem (L := L) (ns := []) (h := []) SetS.nil hb).1
  have pb : b.1.Perm ((ordT [] L).take j) := (List.perm_ext_iff_of_nodup nb ((List.take_sublist j _).nodup nT)).mpr hm
  have hl : b.1.length = j := by rw [pb.length_eq, List.length_take]; omega
  have e : lack b.1 ((ordT [] L).take k) = j - k := by
    rw [lack_def, (pb.filter _).length_eq, take_lack nT hj]
  unfold redL redZ
  rw [e, hl]
  by_cases h : (j : Int) - k > 0
  · rw [if_pos h]; omega
  · rw [if_neg h]; omega
theorem redZ_fol {b d : Bd} (nd : d.1.Nodup) (h : fol b d) (k : Nat) : redZ k d ≤ redZ k b := by
  unfold fol at h
  have h1 := two_filters (fun x => decide (x ∈ b.1)) d.1
  have h2 : (d.1.filter fun x => decide (x ∈ b.1)).length ≤ b.1.length := nd_len (List.Pairwise.filter _ nd) fun x hx => by simpa using (List.mem_filter.mp hx).2
  rw [lack_def] at h
  unfold redZ
  split <;> split <;> omega
theorem minI_tight {bs : List Bd} (hn : Nest bs) (hb : bs ≠ []) (k : Nat) : minI ((tightB bs).map (redZ k)) = minI (bs.map (redZ k)) := by
  have T := tight_ok hn
  have ht : tightB bs ≠ [] := fun e => by
    obtain ⟨b, hb⟩ := List.exists_mem_of_ne_nil _ hb
    obtain ⟨d, hd, _⟩ := T.cov b hb
    rw [e] at hd; cases hd
  refine Int.le_antisymm ?_ ?_
  · obtain ⟨b, hb2, e⟩ := List.mem_map.mp (minI_mem (l := bs.map (redZ k)) (by simpa using hb))
    obtain ⟨d, hd, hf⟩ := T.cov b hb2
    rw [← e]
    exact Int.le_trans (minI_le (List.mem_map.mpr ⟨d, hd, rfl⟩)) (redZ_fol (SetS.nodup (T.chain.set d hd)) hf k)
  · obtain ⟨d, hd, e⟩ := List.mem_map.mp (minI_mem (l := (tightB bs).map (redZ k)) (by simpa using ht))
    rw [← e]
    exact minI_le (List.mem_map.mpr ⟨d, T.sub d hd, rfl⟩)
theorem sum_less (f : Nat → Int) : ∀ n : Nat, ((List.range n).map fun k => f k - 1).sum = ((List.range n).map f).sum - (n : Int)
  | 0 => rfl
  | n + 1 => by
    rw [List.range_succ, List.map_append, List.map_append, List.sum_append, List.sum_append, sum_less f n]
    show _ + ([f n - 1] : List Int).sum = _ + ([f n] : List Int).sum - _
    simp only [List.sum_cons, List.sum_nil]
    omega
theorem hgt_law (L : List Stp) : hgt (shape L) = hgtL L := by
  have ok := shape_ok L
  unfold hgt hgtL
  by_cases hc : isCon L = true
  · have e : (shape L).bds = conB := by unfold shape; dsimp only; rw [if_pos (show ((capB [] [] L).any fun x => decide (x.2 < 1)) = true from hc)]
    rw [if_pos (.inr e), if_pos (.inl hc)]
  · have es : shape L = ⟨goes L [], (nmS [] L).filter (fun x => !decide (x ∈ goes L [])), tightB (capB [] [] L)⟩ := by unfold shape; dsimp only; rw [if_neg (show ¬ ((capB [] [] L).any fun x => decide (x.2 < 1)) = true from hc)]
    have hn : Nest (capB [] [] L) := capB_nest .nil
    have T := tight_ok hn
    by_cases h0 : capB [] [] L = []
    · rw [es, h0, if_pos (.inl rfl), if_pos (.inr rfl)]
    · have ht : tightB (capB [] [] L) ≠ [] := fun e => by
        obtain ⟨b, hb⟩ := List.exists_mem_of_ne_nil _ h0
        obtain ⟨d, hd, _⟩ := T.cov b hb
        rw [e] at hd; cases hd
      have hk : tightB (capB [] [] L) ≠ conB := not_con fun b hb => by
        have h2 := T.sub b hb
        have : ¬ ((capB [] [] L).any fun x => decide (x.2 < 1)) = true := hc
        rw [List.any_eq_true] at this
        have h3 : ¬ b.2 < 1 := fun z => this ⟨b, h2, decide_eq_true z⟩
        omega
      have many : (shape L).front.length + (shape L).gone.length = (ordT [] L).length := by
        rw [← List.length_append]
        have nd : ((shape L).front ++ (shape L).gone).Nodup := by
          rw [List.nodup_append]
          refine ⟨ok.fnd, SetS.nodup ok.gset, fun a ha b hb e => ?_⟩
          subst e
          exact ok.gfr a hb ha
        refine same_len nd (ordT_nd .nil) fun z => ?_
        rw [ordT_nm (acc := []) (ns := []) (fun x => Iff.rfl) z, es]
        show z ∈ goes L [] ++ (nmS [] L).filter (fun x => !decide (x ∈ goes L [])) ↔ _
        rw [List.mem_append, List.mem_filter]
        constructor
        · rintro (h | h)
          · exact mem_nmS.mpr (.inr ((goes_names h).elim (fun z => by cases z) id))
          · exact h.1
        · intro h
          by_cases g : z ∈ goes L []
          · exact .inl g
          · exact .inr ⟨h, by simp [g]⟩
      rw [many, if_neg (by rw [es]; exact fun z => z.elim ht hk), if_neg (fun z => z.elim hc h0)]
      unfold hgtB
      rw [sum_less fun k => minI ((capB [] [] L).map (redL ((ordT [] L).take k)))]
      congr 3
      refine List.map_congr_left fun k _ => ?_
      have eb : (shape L).bds = tightB (capB [] [] L) := by rw [es]
      rw [eb, minI_tight hn h0]
      congr 1
      exact List.map_congr_left fun b hb => (redL_Z hb k).symm
/-! ### caps greater by so much -/
def Stp.up (c : Int) : Stp → Stp
  | .cap n => .cap (n + c)
  | s => s
theorem ordT_up (c : Int) : ∀ {L : List Stp} {acc : List Str}, ordT acc (L.map (Stp.up c)) = ordT acc L
  | [], _ => rfl
  | .cap _ :: L, _ => ordT_up c (L := L)
  | .touch _ :: L, _ => ordT_up c (L := L)
  | .forget _ :: L, _ => ordT_up c (L := L)
theorem capB_up {c : Int} (hc : 0 ≤ c) : ∀ {L : List Stp} {ns h : List Str}, ((capB ns h L).any fun x => decide (x.2 < 1)) = false → capB ns h (L.map (Stp.up c)) = (capB ns h L).map fun b => (b.1, b.2 + c)
  | [], _, _, _ => rfl
  | .cap n :: L, ns, h, a => by
    rw [capB, List.any_cons, Bool.or_eq_false_iff] at a
    have h1 : ¬ n - (h.length : Int) < 1 := by simpa using a.1
    have e1 : h.take n.toNat = h := List.take_of_length_le (by omega)
    have e2 : h.take (n + c).toNat = h := List.take_of_length_le (by omega)
    have a2 := a.2
    rw [e1] at a2
    show capB ns h (.cap (n + c) :: L.map (Stp.up c)) = _
    rw [capB, capB, e1, e2, capB_up hc a2, List.map_cons]
    congr 2
    show n + c - (h.length : Int) = n - (h.length : Int) + c
    omega
  | .touch t :: L, ns, h, a => by
    rw [capB] at a ⊢
    exact capB_up hc (L := L) a
  | .forget t :: L, ns, h, a => by
    rw [capB] at a ⊢
    exact capB_up hc (L := L) a
theorem minI_up {l : List Int} {c : Int} (h : l ≠ []) : minI (l.map fun x => x + c) = minI l + c := by
  symm
  refine minI_eq (List.mem_map.mpr ⟨_, minI_mem h, rfl⟩) fun y hy => ?_
  obtain ⟨x, hx, rfl⟩ := List.mem_map.mp hy
  have := minI_le hx
  omega
theorem sum_up (f : Nat → Int) (c : Int) : ∀ n : Nat, ((List.range n).map fun k => f k + c).sum = ((List.range n).map f).sum + c * (n : Int)
  | 0 => by simp
  | n + 1 => by
    rw [List.range_succ, List.map_append, List.map_append, List.sum_append, List.sum_append, sum_up f c n]
    show _ + ([f n + c] : List Int).sum = _ + ([f n] : List Int).sum + c * ((n + 1 : Nat) : Int)
    simp only [List.sum_cons, List.sum_nil]
    have : c * ((n + 1 : Nat) : Int) = c * (n : Int) + c := by rw [Int.natCast_add, Int.mul_add]; simp
    omega
theorem hgt_up {c : Int} (hc : 0 ≤ c) {L : List Stp} {v : Int} (h : hgtL L = some v) : hgtL (L.map (Stp.up c)) = some (v + c * (((ordT [] L).length + 1 : Nat) : Int)) := by
  unfold hgtL at h ⊢
  by_cases g : isCon L = true ∨ capB [] [] L = []
  · rw [if_pos g] at h; cases h
  · rw [if_neg g] at h
    have g1 : ((capB [] [] L).any fun x => decide (x.2 < 1)) = false := Bool.eq_false_iff.mpr fun z => g (.inl z)
    have g2 : capB [] [] L ≠ [] := fun z => g (.inr z)
    have e := capB_up hc (L := L) (ns := []) (h := []) g1
    have n1 : ¬ (isCon (L.map (Stp.up c)) = true ∨ capB [] [] (L.map (Stp.up c)) = []) := by
      rintro (z | z)
      · unfold isCon at z
        rw [e, List.any_map, List.any_eq_true] at z
        obtain ⟨b, hb, hlt⟩ := z
        have hlt : b.2 + c < 1 := by simpa using hlt
        have : ((capB [] [] L).any fun x => decide (x.2 < 1)) = true := List.any_eq_true.mpr ⟨b, hb, decide_eq_true (by omega)⟩
        rw [g1] at this; cases this
      · rw [e] at z
        exact g2 (List.map_eq_nil_iff.mp z)
    rw [if_neg n1, ordT_up, e]
    injection h with h
    rw [← h, ← sum_up]
    congr 3
    funext k
    rw [List.map_map]
    have e2 : (capB [] [] L).map (redL ((ordT [] L).take k) ∘ fun b => (b.1, b.2 + c)) = ((capB [] [] L).map (redL ((ordT [] L).take k))).map fun x => x + c := by
      rw [List.map_map]
      refine List.map_congr_left fun b _ => ?_
      show b.2 + c + (lack b.1 ((ordT [] L).take k) : Int) = b.2 + (lack b.1 ((ordT [] L).take k) : Int) + c
      omega
    rw [e2, minI_up (by simpa using g2)]
    show minI _ + c - 1 = minI _ - 1 + c
    omega
end TC
/-! XS3: more for simp: ranges, least numbers, sums, items, draws -/
namespace TC
open PySem PySem.Spec PyProof.Rows L2
variable [Cl]
section
variable {pe : PEnv} {a : XE}
def rngP (p : Pv) : Tr (List Pv) := match p with
  | .int i => .ok (decide (0 ≤ i ∧ i < 4611686018427387904)) (.ret (natsP i.toNat))
  | _ => .fail
theorem rngP_eq (p : Pv) : (match p with | .int (.ofNat n) => .ok (decide (n < 2 ^ 62)) (.ret (natsP n)) | _ => .fail) = rngP p := by
  cases p with
  | int i =>
    cases i with
    | ofNat n =>
      show Tr.ok (decide (n < 2 ^ 62)) (.ret (natsP n)) = Tr.ok (decide ((0:Int) ≤ (n : Int) ∧ (n : Int) < 4611686018427387904)) (.ret (natsP (n : Int).toNat))
      have e : ((0:Int) ≤ (n : Int) ∧ (n : Int) < 4611686018427387904) ↔ (n < 2 ^ 62) := by omega
      rw [decide_eq_decide.mpr e, Int.toNat_natCast]
    | negSucc n => rfl
  | _ => rfl
theorem xItR_r : xItR a pe = (a pe).bind rngP := by
  rw [xItR_s]; congr 1; funext p; exact rngP_eq p
theorem rngP_i {i : Int} (h : 0 ≤ i ∧ i < 4611686018427387904) : rngP (.int i) = .ret (natsP i.toNat) := by
  unfold rngP; dsimp only; rw [decide_eq_true h]; rfl
@[simp] theorem truP_n : truP .non = .ret false := rfl
@[simp] theorem truP_i {i : Int} : truP (.int i) = .ret (i != 0) := rfl
@[simp] theorem isNon_b {b : Bool} : isNon (.bl b) = false := rfl
theorem natsP_eq (n : Nat) : natsP n = (List.range n).map fun (i : Nat) => Pv.int (i : Int) := rfl
theorem rngP_n {n : Nat} (h : n ≤ 1000000) : rngP (.int (n : Int)) = .ret ((List.range n).map fun (i : Nat) => Pv.int (i : Int)) := by rw [rngP_i (by omega), Int.toNat_natCast, natsP_eq]
theorem rngP_s {n : Nat} (h : n ≤ 1000000) : rngP (.int ((n : Int) + 1)) = .ret ((List.range (n + 1)).map fun (i : Nat) => Pv.int (i : Int)) := by
  have e3 : ((n : Int) + 1).toNat = n + 1 := by omega
  rw [rngP_i (by omega), e3, natsP_eq]
@[simp] theorem gSum_i {l : List Int} : gSum [.lst (l.map Pv.int)] = .ret (.int l.sum) := by unfold gSum; simp
theorem gMin1_i {l : List Int} (h : l ≠ []) : gMin1 [.lst (l.map Pv.int)] = .ret (.int (minI l)) := by
  cases l with
  | nil => exact absurd rfl h
  | cons i r =>
    have : gMin1 [.lst ((i :: r).map Pv.int)] = .ret (.int (minF i r)) := by unfold gMin1; dsimp only; rw [asInts_map (i :: r)]
    rw [this]
    obtain ⟨h1, h2, h3⟩ := minF_spec r i
    congr 2
    refine minI_eq ?_ ?_
    · rcases h1 with h1 | h1
      · rw [h1]; exact List.mem_cons_self ..
      · exact List.mem_cons_of_mem _ h1
    · intro y hy
      rcases List.mem_cons.mp hy with rfl | hy
      · exact h2
      · exact h3 y hy
theorem atI_nat {α : Type} {l : List α} {v : Nat} (h : v < l.length) : atI l (v : Int) = some l[v] := by
  have e : ixN l.length (v : Int) = some v := by
    unfold ixN
    rw [if_pos (by omega), if_pos (by omega)]
    simp
  unfold atI
  rw [e]
  simp [h]
theorem gIx_nl {l : List Pv} {v : Nat} (h : v < l.length) : gIx (.lst l) (.int (v : Int)) = .ret l[v] := by unfold gIx; dsimp only; rw [atI_nat h]
theorem gIx_nt {l : List Pv} {v : Nat} (h : v < l.length) : gIx (.tup l) (.int (v : Int)) = .ret l[v] := by unfold gIx; dsimp only; rw [atI_nat h]
theorem setOf_len {xs ys : List Str} (nd : ys.Nodup) (h : ∀ z, z ∈ ys ↔ z ∈ xs) : (setOf xs).length = ys.length :=
  ((List.perm_ext_iff_of_nodup (setOf_set xs).nodup nd).mpr fun z => by rw [mem_setOf, h]).length_eq
theorem gSetIns {ns : List Str} {t : Str} (h : SetS ns) : setOf (ns ++ [t]) = insS t ns :=
  setS_ext (setOf_set _) (setS_ins h) fun z => by rw [mem_setOf, mem_insS]; simp [or_comm]
theorem wp_le {α : Type} {t : Tr α} {m : Nat} {Q R : α → Nat → Prop} (h : t.wp m Q) (g : ∀ a m1, Q a m1 → R a m1) : t.wp m R := h.mono g
theorem wp_bnd {α β : Type} {t : Tr α} {f : α → Tr β} {m : Nat} {Q : α → Nat → Prop} {R : β → Nat → Prop} (h : t.wp m Q) (g : ∀ a m1, Q a m1 → (f a).wp m1 R) : (t.bind f).wp m R := Tr.wp_bind.mpr (h.mono g)
/-- as wp, but nothing looks into it -/
structure Wp {α : Type} (t : Tr α) (m : Nat) (Q : α → Nat → Prop) : Prop where
  out : t.wp m Q
theorem Wp.bnd {α β : Type} {t : Tr α} {f : α → Tr β} {m : Nat} {Q : α → Nat → Prop} {R : β → Nat → Prop} (h : Wp t m Q) (g : ∀ a m1, Q a m1 → (f a).wp m1 R) : (t.bind f).wp m R := Tr.wp_bind.mpr (h.out.mono g)
end
end TC
namespace TC
open PySem PySem.Spec PyProof.Rows L2 RZ
variable [Cl]
def top (i : Nat) : Stmt := PySem.Challenge.pw_touchcaps_k36_how_high_rules_stand.main.body.getD i (.Pass ⟨0, 0, 0, 0⟩)
/-- a def stands at f, called by this name, with these parameters -/
structure At (K : PySem.W.Frag) (mg : Str → Option Value) (x : Str) (st : Stmt) (ps : List Str) (f : Addr) (fd : FuncData) : Prop where
  fn : Fun K x x st f fd
  mg : mg x = some (.ref f)
  bd : Binds K fd ps []
/-- the built-ins stand as they were -/
structure Blt (mg : Str → Option Value) : Prop where
  tuple : mg "tuple" = none
  list : mg "list" = none
  int : mg "int" = none
  len : mg "len" = none
  abs : mg "abs" = none
  all : mg "all" = none
  max : mg "max" = none
  range : mg "range" = none
  zip : mg "zip" = none
  enumerate : mg "enumerate" = none
  isinstance : mg "isinstance" = none
  bool : mg "bool" = none
  str : mg "str" = none
  sorted : mg "sorted" = none
  set : mg "set" = none
  min : mg "min" = none
  any : mg "any" = none
  sum : mg "sum" = none
abbrev sTake : Stmt := top 46
section
variable {P : Program} {w : World} {K : PySem.W.Frag} {mg : Str → Option Value} {base : Heap}
def spTake : DSp := fun ds m Q => ∃ low m', ds = [.urn, .int low] ∧ 0 < low ∧ low < 100000000000000000000000000000000000000000 ∧ m = m' + 1 ∧ ∀ v, 0 ≤ v → v < low → Q (.int v) m'
theorem scTake : FnScope ["_law_urn", "_law_low_so", "_law_drawn", "_law_once", "_law_far", "_law_both_so"] ["_law_urn", "_law_low_so"] (defScope sTake) := ⟨rfl, rfl, rfl, by decide +kernel, rfl, by decide +kernel, by decide +kernel⟩
theorem urn_write {w : W} {u : Addr} {H : Hp} {m m' : Nat} {x' y' z' : Int} (hu : w.u = some u) (U : UI w m H) (hz : 0 ≤ z') (hm : z' + m' ≤ MAXC) : UI w m' (upd H u (.lst [.int x', .int y', .int z'])) := by
  refine ⟨fun a e => ?_, fun a ha => ?_⟩
  · rw [hu] at e; cases e
    exact ⟨x', y', z', upd_same, hz, hm⟩
  · by_cases h : a = u
    · exact ⟨_, by rw [h, upd_same]⟩
    · obtain ⟨o, e⟩ := U.2 a ha
      exact ⟨o, by rw [upd_ne h]; exact e⟩
theorem ok_take {f : Addr} {fd : FuncData} (F : Fun Cl.K "_law_take" "_law_take" sTake f fd) (T : Blt mg) : FnOk P w Cl.K mg base CX0 1 f fd ["_law_urn", "_law_low_so"] (spD spTake) := by
  refine F.ok scTake (fun vs H Q E h => ?_) (fun cdv A outer s H vs Q E hr h => ?_)
  · obtain ⟨wd, ds, m, Q', hds, hu, ⟨low, m', rfl, _⟩, _⟩ := h
    rw [hds.len]; rfl
  · obtain ⟨wd, ds, m, Q', hds, hu, ⟨low, m', rfl, h0, h1, rfl, q⟩, c⟩ := h
    obtain ⟨v1, r1, rfl, k1, k2⟩ := hds.uncons
    obtain ⟨v2, r2, rfl, k3, k4⟩ := k2.uncons
    cases k4.unnil
    rw [Hd.int] at k3
    subst k3
    unfold Hd at k1
    obtain ⟨u, hwu, rfl⟩ := k1
    obtain ⟨x, y, z, hH, hz0, hzm⟩ := hu.1 u hwu
    have nd := scTake.nd
    refine ⟨_, pss_cons (ps_if (pt_cmpR op_gt (pe_ix ix_list (pv 0) pe_int (fun _ _ => rfl)) pe_int (nomark _))
        (pss_cons (ps_set (i := 2) nd rfl (Or.inl rfl) (pe_op op_mod (pe_callTy call_int1 (by rfl) T.int (by decide +kernel) (pa_cons (pe_ix ix_list (pv 0) pe_int (fun _ _ => rfl)) pa_nil)) (pv 1)))
        (pss_cons (ps_asg (pe_op op_fdivW (pe_ix ix_list (pv 0) pe_int (fun _ _ => rfl)) (pv 1)) (pg_sub (pv 0) pe_int set_list))
        (pss_one (ps_ret (pv 2))))) pss_nil)
      (pss_cons (ps_asg (pe_op op_add (pe_ix ix_list (pv 0) pe_int (fun _ _ => rfl)) pe_int) (pg_sub (pv 0) pe_int set_list))
      (pss_cons (ps_set (i := 3) nd rfl (Or.inl rfl) (pe_op op_mod (pe_callTy call_int1 (by rfl) T.int (by decide +kernel) (pa_cons (pe_op op_mul (pe_op op_add (pe_ix ix_list (pv 0) pe_int (fun _ _ => rfl)) (pe_op op_mul pe_int (pe_ix ix_list (pv 0) pe_int (fun _ _ => rfl)))) (pe_op op_add pe_int (pe_ix ix_list (pv 0) pe_int (fun _ _ => rfl)))) pa_nil)) pe_int))
      (pss_cons (ps_set (i := 4) nd rfl (Or.inl rfl) (pe_op op_add (pe_op op_mod (pe_callTy call_int1 (by rfl) T.int (by decide +kernel) (pa_cons (pv 3) pa_nil)) pe_int) pe_int))
      (pss_cons (ps_set (i := 5) nd rfl (Or.inl rfl) (pe_op op_mod (pe_callTy call_int1 (by rfl) T.int (by decide +kernel) (pa_cons (pe_op op_mul (pe_op op_add (pe_op op_add (pv 3) (pe_ix ix_list (pv 0) pe_int (fun _ _ => rfl))) (pe_op op_fdiv (pe_ix ix_list (pv 0) pe_int (fun _ _ => rfl)) pe_int)) (pv 4)) pa_nil)) pe_int))
      (pss_one (ps_ret (pe_op op_mod (pe_callTy call_int1 (by rfl) T.int (by decide +kernel) (pa_cons (pe_op op_fdiv (pe_op op_mod (pe_callTy call_int1 (by rfl) T.int (by decide +kernel) (pa_cons (pe_op op_add (pe_op op_mul (pv 5) pe_int) (pv 3)) pa_nil)) pe_int) pe_int) pa_nil)) (pv 1)))))))), ?_⟩
    refine ⟨_, rfl, u, _, _, _, rfl, rfl, SqL.of hH, rfl, _, _, rfl, rfl, _, rfl, ?_⟩
    refine ite2 (fun hx => ?_) (fun hx => ?_)
    · refine ⟨_, rfl, u, _, _, _, rfl, rfl, SqL.of hH, rfl, .inl ⟨_, rfl, _, rfl, _, _, rfl, rfl, h0, ?_⟩⟩
      refine ⟨_, rfl, u, _, _, _, rfl, rfl, SqL.of hH, rfl, _, rfl, _, _, rfl, rfl, wide_div (b := 200) h0 (by omega) (by decide) (by decide), ?_⟩
      refine ⟨_, rfl, u, _, _, 0, rfl, rfl, hH, rfl, ?_⟩
      refine ⟨_, rfl, ?_⟩
      exact c _ _ _ _ (Fr.write hwu) (urn_write hwu hu hz0 (by omega)) (Hd.int.mpr rfl) (q _ (Int.emod_nonneg _ (by omega)) (Int.emod_lt_of_pos _ h0))
    · refine ⟨_, rfl, u, _, _, _, rfl, rfl, SqL.of hH, rfl, _, _, rfl, rfl, ?_⟩
      refine ⟨_, rfl, u, _, _, 2, rfl, rfl, hH, rfl, ?_⟩
      have hH2 : upd H u (.lst ([V.int x, .int y, .int z].set 2 (.int (z + 1)))) u = some (.lst [.int x, .int y, .int (z + 1)]) := upd_same
      refine ⟨_, rfl, u, _, _, _, rfl, rfl, SqL.of hH2, rfl, _, rfl, u, _, _, _, rfl, rfl, SqL.of hH2, rfl, _, _, rfl, rfl, .inl (by decide), _, _, rfl, rfl, _, rfl, u, _, _, _, rfl, rfl, SqL.of hH2, rfl, _, _, rfl, rfl, _, _, rfl, rfl, .inr ?_, .inl ⟨_, rfl, _, _, rfl, rfl, (by show (0 : Int) < _; decide), ?_⟩⟩
      · have := hzm
        unfold MAXC at this
        exact ⟨by omega, by omega⟩
      · refine ⟨_, rfl, .inl ⟨_, rfl, _, _, rfl, rfl, (by show (0 : Int) < _; decide), _, _, rfl, rfl, ?_⟩⟩
        refine ⟨_, rfl, _, rfl, u, _, _, _, rfl, rfl, SqL.of hH2, rfl, _, _, rfl, rfl, _, rfl, u, _, _, _, rfl, rfl, SqL.of hH2, rfl, _, _, rfl, rfl, ⟨(by show (0 : Int) < _; decide), (by show _ < (2 : Int) ^ 30; decide)⟩, _, _, rfl, rfl, _, rfl, _, _, rfl, rfl, .inr ?_, .inl ⟨_, rfl, _, _, rfl, rfl, (by show (0 : Int) < _; decide), ?_⟩⟩
        · exact ⟨by omega, by omega⟩
        · refine ⟨_, rfl, _, _, rfl, rfl, .inr ⟨by decide, by decide⟩, _, rfl, _, _, rfl, rfl, .inl ⟨_, rfl, _, _, rfl, rfl, (by show (0 : Int) < _; decide), _, _, rfl, rfl, ⟨(by show (0 : Int) < _; decide), (by show _ < (2 : Int) ^ 30; decide)⟩, .inl ⟨_, rfl, _, rfl, _, _, rfl, rfl, h0, ?_⟩⟩⟩
          exact c _ _ _ _ (Fr.write hwu) (urn_write hwu hu (by omega) (by omega)) (Hd.int.mpr rfl) (q _ (Int.emod_nonneg _ (by omega)) (Int.emod_lt_of_pos _ h0))
end
abbrev sBox : Stmt := top 42
abbrev sCells : Stmt := top 43
theorem b01 (b : Bool) : -(2 ^ 64) < (if b = true then (1 : Int) else 0) ∧ (if b = true then (1 : Int) else 0) < 2 ^ 64 := by
  cases b <;> exact ⟨by decide, by decide⟩
theorem ixN_nat {n j : Nat} (h : j < n) : ixN n (j : Int) = some j := by
  unfold ixN
  rw [if_pos (by omega), if_pos (by omega)]
  simp
section
variable {P : Program} {w : World} {K : PySem.W.Frag} {mg : Str → Option Value} {base : Heap}
def spBox (K : PySem.W.Frag) : Sp := fun vs H Q _ => ∃ (a : Addr) (ns : List Int) (k : Int), vs = [.ref a, .int k] ∧ SqL K H a (ns.map V.int) ∧ 0 ≤ k ∧ k < (ns.length : Nat) ∧ ns.length ≤ 1000 ∧
  ∀ H' p x y, Same H H' → H p = none → H' p = some (.lst [.int x, .int y, .int 0]) → Q (.ref p) H'
theorem scBox : FnScope ["_law_script", "_law_k", "_law_cell"] ["_law_script", "_law_k"] (defScope sBox) := ⟨rfl, rfl, rfl, by decide +kernel, rfl, by decide +kernel, by decide +kernel⟩
theorem ok_box {f : Addr} {fd : FuncData} (F : Fun Cl.K "_law_box" "_law_box" sBox f fd) (T : Blt mg) : FnOk P w Cl.K mg base CX0 1 f fd ["_law_script", "_law_k"] (spBox Cl.K) := by
  refine F.ok scBox (fun vs H Q E h => ?_) (fun cdv A outer s H vs Q E hr h => ?_)
  · obtain ⟨a, ns, k, rfl, _⟩ := h
    rfl
  · obtain ⟨a, ns, k, rfl, ha, k0, k1, kl, q⟩ := h
    have nd := scBox.nd
    refine ⟨_, pss_cons (ps_set (i := 2) nd rfl (Or.inl rfl) (pe_ifExp (pt_cmpR op_lt (pv 1) (pe_callB call_len_seq (by rfl) T.len PySem.boot_len (pa_cons (pv 0) pa_nil)) (nomark _)) (pe_ix ix_list (pv 0) (pv 1) (fun _ _ => rfl)) pe_int))
      (pss_one (ps_ret (pe_lst (pa_cons (pe_op op_mul (pe_callB call_abs (by rfl) T.abs (by decide +kernel) (pa_cons (pv 2) pa_nil)) (pe_callTy call_int1 (by rfl) T.int (by decide +kernel) (pa_cons (pe_cmpR op_ge (pe_callB call_abs (by rfl) T.abs (by decide +kernel) (pa_cons (pv 2) pa_nil)) (pe_op op_pow pe_int pe_int) (nomark _)) pa_nil)))
        (pa_cons (pe_op op_add (pe_op op_add (pe_op op_mod (pe_callTy call_int1 (by rfl) T.int (by decide +kernel) (pa_cons (pv 2) pa_nil)) pe_int) (pe_op op_mul pe_int (pv 1))) pe_int) (pa_cons pe_int pa_nil)))))), ?_⟩
    have hk : k.toNat < ns.length := by omega
    have hat : atI (ns.map V.int) k = some (.int ns[k.toNat]) := by
      have e : k = ((k.toNat : Nat) : Int) := by omega
      refine at_of e ?_
      simp [hk]
    refine ⟨_, rfl, _, rfl, a, _, rfl, .inl ha, _, _, rfl, rfl, _, rfl, ?_⟩
    rw [List.length_map, decide_eq_true k1]
    refine iteT ⟨_, rfl, _, rfl, a, _, _, _, rfl, rfl, ha, hat, ?_⟩
    refine ⟨_, rfl, _, rfl, _, rfl, _, rfl, _, _, rfl, rfl, ⟨by decide, by decide, by decide⟩, _, _, rfl, rfl, .inr ⟨_, rfl, _, _, rfl, rfl, .inr ?_, ?_⟩⟩
    · exact b01 _
    · refine ⟨_, rfl, .inl ⟨_, rfl, _, _, rfl, rfl, (by show (0 : Int) < _; decide), _, rfl, _, _, rfl, rfl, .inl ⟨by decide, by decide⟩, _, _, rfl, rfl, _, _, rfl, rfl, (by show 3 ≤ sizeLine; decide), fun p hp => ?_⟩⟩
      exact q _ p _ _ (fun b o e => by rw [upd_ne (ne_of_none e hp)]; exact e) hp upd_same
def spCells (K : PySem.W.Frag) : Sp := fun vs H Q _ => ∃ (a : Addr) (ns : List Int) (t : Nat), vs = [.ref a, .int (t : Nat)] ∧ SqL K H a (ns.map V.int) ∧ ns.length ≤ 63 ∧ 0 < t ∧ t ≤ 63 ∧
  ∀ (H' : Hp) (p : Addr) (ms : List Int), Same H H' → H p = none → H' p = some (.lst (ms.map V.int)) → 0 < ms.length → ms.length ≤ 63 → Q (.ref p) H'
theorem or_case {H Hc : Hp} {c1 : Addr} {ns : List Int} {t : Nat} {Q : V → Hp → Prop} (t0 : 0 < t) (sm1 : Same H Hc) (nc1 : H c1 = none) (hp1 : Hc c1 = some (.lst ((ns.take t).map V.int)))
    (hQ : ∀ (Hx : Hp) (p : Addr) (ms : List Int), Same H Hx → H p = none → Hx p = some (.lst (ms.map V.int)) → 0 < ms.length → ms.length ≤ max 1 ns.length → (t ≤ ns.length → ms.length = t) → Q (.ref p) Hx) :
    ∃ k, TruV Cl.K (.ref c1) Hc k ∧ if k = true then Q (.ref c1) Hc else (1 ≤ sizeLine ∧ ∀ c2, Hc c2 = none → Q (.ref c2) (upd Hc c2 (.lst [.int 0]))) := by
  refine ⟨_, .inl ⟨_, SqL.of hp1, rfl⟩, ?_⟩
  cases ns with
  | nil =>
    rw [show ((List.take t ([] : List Int)).map V.int).isEmpty = true by simp]
    refine iteF ⟨(by show 1 ≤ sizeLine; decide), fun c2 hc2 => ?_⟩
    refine hQ _ c2 [0] (fun b o e => by rw [upd_ne (ne_of_none (sm1 b o e) hc2)]; exact sm1 b o e) (sm1.free hc2) upd_same (by simp) (by simp) (fun h => ?_)
    simp at h; omega
  | cons n ns =>
    obtain ⟨t', rfl⟩ : ∃ t', t = t' + 1 := ⟨t - 1, by omega⟩
    rw [show ((List.take (t' + 1) (n :: ns)).map V.int).isEmpty = false by simp]
    refine iteT (hQ _ c1 _ sm1 nc1 hp1 (by simp) ?_ fun h => ?_)
    · rw [List.length_take]; omega
    · rw [List.length_take]; omega
theorem scCells : FnScope ["_law_script", "_law_top", "_law_cells_so", "_law_k", "_law_cell", "_law_at_so"] ["_law_script", "_law_top"] (defScope sCells) := ⟨rfl, rfl, rfl, by decide +kernel, rfl, by decide +kernel, by decide +kernel⟩
theorem ok_cells {f : Addr} {fd : FuncData} (F : Fun Cl.K "_law_cells" "_law_cells" sCells f fd) (T : Blt mg) : FnOk P w Cl.K mg base CX0 1 f fd ["_law_script", "_law_top"] (spCells Cl.K) := by
  refine F.ok scCells (fun vs H Q E h => ?_) (fun cdv A outer s H vs Q E hr h => ?_)
  · obtain ⟨a, ns, t, rfl, _⟩ := h
    rfl
  · obtain ⟨a, ns, t, rfl, ha, hl, t0, t1, q⟩ := h
    have nd := scCells.nd
    refine ⟨_, pss_cons (ps_set (i := 2) nd rfl (Or.inl rfl) (pe_orT (pe_callTy call_list_of (by rfl) T.list (by decide +kernel) (pa_cons (pe_slice sl_list (pv 0) po_none (po_some (pv 1))) pa_nil)) (pe_one (pe_lst (pa_cons pe_int pa_nil)))))
      (pss_cons (ps_for PassesOwn.never rfl (pi_enum (by rfl) T.enumerate (pa_cons (pe_slice sl_list (pv 0) (po_some (pv 1)) (po_some pe_int)) pa_nil)) (pg_tup rfl (pgs_cons (pg_name (i := 3) nd rfl (.inl rfl)) (pgs_cons (pg_name (i := 4) nd rfl (.inl rfl)) pgs_nil)))
        (pss_cons (ps_set (i := 5) nd rfl (Or.inl rfl) (pe_op op_mod (pe_callTy call_int1 (by rfl) T.int (by decide +kernel) (pa_cons (pv 3) pa_nil)) (pv 1)))
        (pss_one (ps_asg (pe_op op_add (pe_ix ix_list (pv 2) (pv 5) (fun _ _ => rfl)) (pe_op op_mul (pv 4) (pe_op op_add (pv 3) pe_int))) (pg_sub (pv 2) (pv 5) set_list)))))
      (pss_one (ps_ret (pv 2)))), ?_⟩
    have hcut : cutV (ns.map V.int) none (some (t : Int)) = (ns.take t).map V.int := by
      unfold cutV
      rw [HT.sIx_none, HT.sIx_nat, List.length_map, List.drop_zero, Nat.sub_zero, List.map_take, ← List.length_map (f := V.int) (as := ns)]
      by_cases h : t ≤ (ns.map V.int).length
      · rw [Nat.min_eq_left h]
      · rw [Nat.min_eq_right (by omega), List.take_length, List.take_of_length_le (by omega)]
    refine ⟨_, rfl, _, rfl, _, rfl, a, _, rfl, ha, fun s1 hs1 => ?_⟩
    rw [hcut]
    refine ⟨s1, _, rfl, .inl (SqL.of upd_same), fun c1 hc1 => ?_⟩
    have nc1 : H c1 = none := by
      by_cases e : c1 = s1
      · rw [e]; exact hs1
      · rw [upd_ne e] at hc1; exact hc1
    have sm1 : Same H (upd (upd H s1 (.lst ((ns.take t).map V.int))) c1 (.lst ((ns.take t).map V.int))) := fun b o e => by rw [upd_ne (ne_of_none e nc1), upd_ne (ne_of_none e hs1)]; exact e
    generalize hg : upd (upd H s1 (.lst ((ns.take t).map V.int))) c1 (.lst ((ns.take t).map V.int)) = Hc at sm1
    have hp1 : Hc c1 = some (.lst ((ns.take t).map V.int)) := by rw [← hg]; exact upd_same
    have hlen : ns.length ≤ 63 := hl
    let es : List Int := (ns.drop (min t ns.length)).take (min 63 ns.length - min t ns.length)
    have hcut2 : cutV (ns.map V.int) (some (t : Int)) (some 63) = es.map V.int := by
      unfold cutV
      rw [HT.sIx_nat, show (63 : Int) = ((63 : Nat) : Int) from rfl, HT.sIx_nat, List.length_map]
      simp [es, List.map_take, List.map_drop]
    have hesl : es.length ≤ 63 := by simp only [es, List.length_take, List.length_drop]; omega
    have hest : 0 < es.length → t < ns.length := fun h => by simp only [es, List.length_take, List.length_drop] at h; omega
    dsimp only [tLst, tCons, tC, tNil]
    refine or_case (Q := fun x H1 => gName 2 x _ H1 _) t0 sm1 nc1 hp1 (fun Hx p ms sm np hp l0 l1 lt => ?_)
    have haX : SqL Cl.K Hx a (ns.map V.int) := sm.seq ha
    refine ⟨_, rfl, _, rfl, _, rfl, _, rfl, a, _, rfl, haX, fun s2 hs2 => ?_⟩
    rw [hcut2]
    refine ⟨s2, _, rfl, SqL.of upd_same, ?_⟩
    have n2 : H s2 = none := sm.free hs2
    have hps : p ≠ s2 := ne_of_none hp hs2
    refine for_it (walk_enum (K := Cl.K) (a := s2) (xs := es.map V.int)) (fun i σ H3 => ∃ (o3 o4 o5 : Option V) (ms' : List Int), σ = [some (.ref a), some (.int t), some (.ref p), o3, o4, o5] ∧ Same H H3 ∧ H3 s2 = some (.lst (es.map V.int)) ∧ H3 p = some (.lst (ms'.map V.int)) ∧ ms'.length = ms.length)
      ⟨none, none, none, ms, rfl, fun b o e => by rw [upd_ne (ne_of_none e n2)]; exact sm b o e, upd_same, by rw [upd_ne hps]; exact hp, rfl⟩ (fun i σ H3 _ ⟨_, _, _, _, _, _, e, _⟩ => SqL.of e) ?_ ?_
    · rintro i x σ H3 H4 hi ⟨o3, o4, o5, ms', rfl, sm3, e2, ep, el⟩ ⟨T1, x1, y1, rfl, hT, rfl, hx1, hy1⟩
      have hi' : i < es.length := by simpa using hi
      cases hx1
      have hy2 : y1 = .int es[i] := by
        have : (es.map V.int)[i]? = some y1 := hy1
        rw [List.getElem?_map, List.getElem?_eq_getElem hi'] at this
        exact (Option.some.inj this).symm
      subst hy2
      have hpT : p ≠ T1 := ne_of_none ep hT
      have hp4 : upd H3 T1 (.tup [V.int (i : Int), .int es[i]]) p = some (.lst (ms'.map V.int)) := by rw [upd_ne hpT]; exact ep
      have hmt : ms.length = t := lt (by have := hest (by omega); omega)
      have hj : i % t < ms'.length := by rw [el, hmt]; exact Nat.mod_lt _ t0
      have hij : ((i : Int) % (t : Int)) = ((i % t : Nat) : Int) := by omega
      refine ⟨T1, _, rfl, SqT.of upd_same, rfl, _, _, rfl, _, _, rfl, rfl, ?_⟩
      refine ⟨_, rfl, .inl ⟨_, rfl, _, rfl, _, _, rfl, rfl, (by show (0 : Int) < (t : Int); omega), ?_⟩⟩
      refine ⟨_, rfl, _, rfl, p, _, _, .int ms'[i % t], rfl, rfl, SqL.of hp4, at_of hij (by simp [hj]), _, rfl, _, rfl, _, _, rfl, rfl, _, _, rfl, rfl, .inr ⟨by omega, by omega⟩, _, _, rfl, rfl, ?_⟩
      refine ⟨_, rfl, _, rfl, p, _, _, i % t, rfl, rfl, hp4, ?_, ?_⟩
      · rw [hij, List.length_map]
        exact ixN_nat hj
      · refine ⟨_, _, _, ms'.set (i % t) (ms'[i % t] + es[i] * ((i : Int) + 2)), rfl, ?_, ?_, ?_, by rw [List.length_set]; exact el⟩
        · intro b o e
          rw [upd_ne (ne_of_none e np), upd_ne (ne_of_none (sm3 b o e) hT)]
          exact sm3 b o e
        · rw [upd_ne (Ne.symm hps), upd_ne (ne_of_none e2 hT)]
          exact e2
        · rw [upd_same, List.map_set]
    · rintro σ H3 ⟨o3, o4, o5, ms', rfl, sm3, e2, ep, el⟩
      exact ⟨_, rfl, q H3 p ms' sm3 np ep (by omega) (by omega)⟩
end
/-- a method's def -/
structure AtM (K : PySem.W.Frag) (x qual : Str) (st : Stmt) (ps : List Str) (f : Addr) (fd : FuncData) : Prop where
  fn : Fun K x qual st f fd
  bd : Binds K fd ps []
/-- a method whose parameters have defaults -/
structure AtD (K : PySem.W.Frag) (x qual : Str) (st : Stmt) (ps : List Str) (dvs : List V) (f : Addr) (fd : FuncData) : Prop where
  fn : FunD K x qual (defArgs st) (defBody st) (defScope st) dvs [] f fd
  bd : Binds K fd ps []
  bd0 : ∃ ds, Vals dvs ds ∧ Binds K fd ps ds
def x__law_take : GA := fun ps => match ps with
  | [.urn, .int low] => .ok (decide (0 < low ∧ low < 100000000000000000000000000000000000000000)) (.draw low.toNat fun v => .ret (.int v))
  | _ => .fail
theorem cx_take : CallX spTake x__law_take := fun ps m Q h => by
  unfold x__law_take at h
  split at h
  · next low =>
    obtain ⟨h1, h⟩ := Tr.wp_ok h
    have h1 := of_decide_eq_true h1
    have h2 : 0 < m := h.1
    refine ⟨low, m - 1, by rw [PDs, PDs, PDs, Pv.D, Pv.D], h1.1, h1.2, by omega, fun v v0 v1 => ?_⟩
    have h3 := h.2 v.toNat (by omega)
    have h4 : Q (Pv.int (v.toNat : Int)).D (m - 1) := h3
    rw [Pv.D, Int.toNat_of_nonneg v0] at h4
    exact h4
  · exact h.elim
theorem blkOk_eq {N N2 : List Str} {sc sc2 scope : Scope} {own : List (Str × Nat)} (h1 : N = N2) (h2 : sc = sc2) (h : blkC N2 sc2 scope own = true) : BlkOk N sc scope own := by
  subst h1; subst h2; exact blkOk_by h
theorem conB_hd {a b e : Addr} {o1 o2 o3 : Option Addr} {n1 n2 n3 : Nat} {s1 s2 s3 : Array (Option Value)} {t : Tok} (ha : Cl.K.lookup a = some ⟨.type "tuple", o1, .seq #[.ref b] n1, s1⟩) (hb : Cl.K.lookup b = some ⟨.type "tuple", o2, .seq #[.ref e, .int 0 t] n2, s2⟩) (he : Cl.K.lookup e = some ⟨.type "tuple", o3, .seq #[] n3, s3⟩) (w : W) (H : Hp) :
    Hd w H (.ref a) vConB.D := by
  have k1 : Kt a [V.ref b] := ⟨_, _, _, ha, rfl, rfl, (by show 1 ≤ sizeLine; decide), .cons rfl .nil⟩
  have k2 : Kt b [V.ref e, V.int 0] := ⟨_, _, _, hb, rfl, rfl, (by show 2 ≤ sizeLine; decide), .cons rfl (.cons ⟨t, rfl⟩ .nil)⟩
  have k3 : Kt e [] := ⟨_, _, _, he, rfl, rfl, (by show 0 ≤ sizeLine; decide), .nil⟩
  exact Hd.tup.mpr ⟨a, _, rfl, .inl k1, .cons (Hd.tup.mpr ⟨b, _, rfl, .inl k2, .cons (Hd.tup.mpr ⟨e, _, rfl, .inl k3, .nil⟩) (.cons (Hd.int.mpr rfl) .nil)⟩) .nil⟩
end TC
namespace TC
open PySem PySem.Spec PyProof.Rows L2 RZ
variable [Cl]
abbrev s_Step__d__kind : Stmt := inClass (top 23) 2
abbrev s_Step__d__what : Stmt := inClass (top 23) 3
abbrev s_with_name : Stmt := top 27
abbrev s_outside : Stmt := top 16
abbrev s_forgotten : Stmt := top 17
abbrev s_touched : Stmt := top 18
abbrev s_capped : Stmt := top 19
abbrev s_row_behind_step : Stmt := top 22
abbrev s_told_by : Stmt := top 28
abbrev s_tight_chain : Stmt := top 3
abbrev s_shape_of : Stmt := top 29
abbrev s_Rule__d__steps : Stmt := inClass (top 36) 2
abbrev s_form_of : Stmt := top 38
abbrev s_is_bounded : Stmt := top 33
abbrev s_height_of : Stmt := top 5
abbrev s_names_of : Stmt := top 34
abbrev s_height : Stmt := top 40
abbrev s_Rule__d____init__ : Stmt := inClass (top 36) 0
abbrev s_is_numeral : Stmt := top 8
abbrev s_is_number : Stmt := top 7
abbrev s_is_name : Stmt := top 15
abbrev s_is_step : Stmt := top 21
abbrev s_Step__d____init__ : Stmt := inClass (top 23) 0
abbrev s_Step__d__of : Stmt := inClass (top 23) 1
abbrev s_Rule__d__of : Stmt := inClass (top 36) 1
abbrev s__law_same : Stmt := top 47
abbrev s__law_by_hand_right : Stmt := top 55
abbrev s__law_of : Stmt := top 44
abbrev s__law_mixed : Stmt := top 45
abbrev s__law_tags : Stmt := top 48
abbrev s__law_line : Stmt := top 49
abbrev s__law_known : Stmt := top 51
abbrev s__law_apart : Stmt := top 52
abbrev s__law_reach : Stmt := top 53
abbrev s__law_height : Stmt := top 54
abbrev s__law_host : Stmt := top 50
abbrev s__law_right : Stmt := top 56
structure Lib (K : PySem.W.Frag) (mg : Str → Option Value) where
  mc_Step : Value
  rd_Step : ClX.CRead K (Cl.c 0).1 mc_Step
  cl_Step : Cls K (Cl.c 0).1
  fs_Step : (Cl.c 0).2 = ([("_kind" : Str), ("_what" : Str)] : List Str)
  mg_Step : mg "Step" = some (.ref (Cl.c 0).1)
  n_Step__kind : NoAttr K (Cl.c 0).1 "_kind"
  n_Step__what : NoAttr K (Cl.c 0).1 "_what"
  mc_Rule : Value
  rd_Rule : ClX.CRead K (Cl.c 1).1 mc_Rule
  cl_Rule : Cls K (Cl.c 1).1
  fs_Rule : (Cl.c 1).2 = ([("_steps" : Str)] : List Str)
  mg_Rule : mg "Rule" = some (.ref (Cl.c 1).1)
  n_Rule__steps : NoAttr K (Cl.c 1).1 "_steps"
  f_Step__d__kind : Addr
  fd_Step__d__kind : FuncData
  a_Step__d__kind : AtM K "kind" "Step.kind" s_Step__d__kind ["self"] f_Step__d__kind fd_Step__d__kind
  p_Step__d__kind : Addr
  pr_Step__d__kind : PropOf K (Cl.c 0).1 "kind" p_Step__d__kind f_Step__d__kind
  f_Step__d__what : Addr
  fd_Step__d__what : FuncData
  a_Step__d__what : AtM K "what" "Step.what" s_Step__d__what ["self"] f_Step__d__what fd_Step__d__what
  p_Step__d__what : Addr
  pr_Step__d__what : PropOf K (Cl.c 0).1 "what" p_Step__d__what f_Step__d__what
  f_with_name : Addr
  fd_with_name : FuncData
  a_with_name : At K mg "with_name" s_with_name ["names", "name"] f_with_name fd_with_name
  f_outside : Addr
  fd_outside : FuncData
  a_outside : At K mg "outside" s_outside ["row", "names"] f_outside fd_outside
  f_forgotten : Addr
  fd_forgotten : FuncData
  a_forgotten : At K mg "forgotten" s_forgotten ["row", "name"] f_forgotten fd_forgotten
  f_touched : Addr
  fd_touched : FuncData
  a_touched : At K mg "touched" s_touched ["row", "name"] f_touched fd_touched
  f_capped : Addr
  fd_capped : FuncData
  a_capped : At K mg "capped" s_capped ["row", "number"] f_capped fd_capped
  f_row_behind_step : Addr
  fd_row_behind_step : FuncData
  a_row_behind_step : At K mg "row_behind_step" s_row_behind_step ["kind", "what", "row"] f_row_behind_step fd_row_behind_step
  f_told_by : Addr
  fd_told_by : FuncData
  a_told_by : At K mg "told_by" s_told_by ["steps"] f_told_by fd_told_by
  f_tight_chain : Addr
  fd_tight_chain : FuncData
  a_tight_chain : At K mg "tight_chain" s_tight_chain ["bounds"] f_tight_chain fd_tight_chain
  f_shape_of : Addr
  fd_shape_of : FuncData
  a_shape_of : At K mg "shape_of" s_shape_of ["steps"] f_shape_of fd_shape_of
  f_Rule__d__steps : Addr
  fd_Rule__d__steps : FuncData
  a_Rule__d__steps : AtM K "steps" "Rule.steps" s_Rule__d__steps ["self"] f_Rule__d__steps fd_Rule__d__steps
  p_Rule__d__steps : Addr
  pr_Rule__d__steps : PropOf K (Cl.c 1).1 "steps" p_Rule__d__steps f_Rule__d__steps
  f_form_of : Addr
  fd_form_of : FuncData
  a_form_of : At K mg "form_of" s_form_of ["rule"] f_form_of fd_form_of
  f_is_bounded : Addr
  fd_is_bounded : FuncData
  a_is_bounded : At K mg "is_bounded" s_is_bounded ["form"] f_is_bounded fd_is_bounded
  f_height_of : Addr
  fd_height_of : FuncData
  a_height_of : At K mg "height_of" s_height_of ["chain", "many"] f_height_of fd_height_of
  f_names_of : Addr
  fd_names_of : FuncData
  a_names_of : At K mg "names_of" s_names_of ["form"] f_names_of fd_names_of
  f_height : Addr
  fd_height : FuncData
  a_height : At K mg "height" s_height ["p"] f_height fd_height
  f_Rule__d____init__ : Addr
  fd_Rule__d____init__ : FuncData
  a_Rule__d____init__ : AtD K "__init__" "Rule.__init__" s_Rule__d____init__ ["self", "steps"] [V.ref Cl.e0] f_Rule__d____init__ fd_Rule__d____init__
  b0_Rule__d____init__ : ∃ ds, Vals [V.ref Cl.e0] ds ∧ Binds K fd_Rule__d____init__ ["self", "steps"] ds
  mk_Rule : Mk K (Cl.c 1).1 f_Rule__d____init__
  f_is_numeral : Addr
  fd_is_numeral : FuncData
  a_is_numeral : At K mg "is_numeral" s_is_numeral ["text"] f_is_numeral fd_is_numeral
  f_is_number : Addr
  fd_is_number : FuncData
  a_is_number : At K mg "is_number" s_is_number ["thing"] f_is_number fd_is_number
  f_is_name : Addr
  fd_is_name : FuncData
  a_is_name : At K mg "is_name" s_is_name ["thing"] f_is_name fd_is_name
  f_is_step : Addr
  fd_is_step : FuncData
  a_is_step : At K mg "is_step" s_is_step ["kind", "what"] f_is_step fd_is_step
  f_Step__d____init__ : Addr
  fd_Step__d____init__ : FuncData
  a_Step__d____init__ : AtM K "__init__" "Step.__init__" s_Step__d____init__ ["self", "kind", "what"] f_Step__d____init__ fd_Step__d____init__
  mk_Step : Mk K (Cl.c 0).1 f_Step__d____init__
  f_Step__d__of : Addr
  fd_Step__d__of : FuncData
  a_Step__d__of : AtM K "of" "Step.of" s_Step__d__of ["text"] f_Step__d__of fd_Step__d__of
  p_Step__d__of : Addr
  sm_Step__d__of : SMet K (Cl.c 0).1 mc_Step "of" p_Step__d__of f_Step__d__of
  f_Rule__d__of : Addr
  fd_Rule__d__of : FuncData
  a_Rule__d__of : AtM K "of" "Rule.of" s_Rule__d__of ["text"] f_Rule__d__of fd_Rule__d__of
  p_Rule__d__of : Addr
  sm_Rule__d__of : SMet K (Cl.c 1).1 mc_Rule "of" p_Rule__d__of f_Rule__d__of
  f__law_same : Addr
  fd__law_same : FuncData
  a__law_same : At K mg "_law_same" s__law_same ["_law_got", "_law_goal"] f__law_same fd__law_same
  f__law_by_hand_right : Addr
  fd__law_by_hand_right : FuncData
  a__law_by_hand_right : At K mg "_law_by_hand_right" s__law_by_hand_right [] f__law_by_hand_right fd__law_by_hand_right
  f__law_take : Addr
  fd__law_take : FuncData
  a__law_take : At K mg "_law_take" sTake ["_law_urn", "_law_low_so"] f__law_take fd__law_take
  f__law_of : Addr
  fd__law_of : FuncData
  a__law_of : At K mg "_law_of" s__law_of ["_law_urn", "_law_some_so"] f__law_of fd__law_of
  f__law_mixed : Addr
  fd__law_mixed : FuncData
  a__law_mixed : At K mg "_law_mixed" s__law_mixed ["_law_urn", "_law_pool"] f__law_mixed fd__law_mixed
  f__law_tags : Addr
  fd__law_tags : FuncData
  a__law_tags : At K mg "_law_tags" s__law_tags ["_law_urn", "_law_size_so"] f__law_tags fd__law_tags
  f__law_line : Addr
  fd__law_line : FuncData
  a__law_line : At K mg "_law_line" s__law_line ["_law_urn", "_law_tags_here", "_law_many_so", "_law_high_so"] f__law_line fd__law_line
  f__law_known : Addr
  fd__law_known : FuncData
  a__law_known : At K mg "_law_known" s__law_known ["_law_mat"] f__law_known fd__law_known
  f__law_apart : Addr
  fd__law_apart : FuncData
  a__law_apart : At K mg "_law_apart" s__law_apart ["_law_some", "_law_far"] f__law_apart fd__law_apart
  f__law_reach : Addr
  fd__law_reach : FuncData
  a__law_reach : At K mg "_law_reach" s__law_reach ["_law_rows_so", "_law_some"] f__law_reach fd__law_reach
  f__law_height : Addr
  fd__law_height : FuncData
  a__law_height : At K mg "_law_height" s__law_height ["_law_mat"] f__law_height fd__law_height
  f__law_host : Addr
  fd__law_host : FuncData
  a__law_host : At K mg "_law_host" s__law_host ["_law_mat"] f__law_host fd__law_host
  f__law_right : Addr
  fd__law_right : FuncData
  a__law_right : At K mg "_law_right" s__law_right ["_law_urn"] f__law_right fd__law_right
  f__law_box : Addr
  fd__law_box : FuncData
  a__law_box : At K mg "_law_box" sBox ["_law_script", "_law_k"] f__law_box fd__law_box
  f__law_cells : Addr
  fd__law_cells : FuncData
  a__law_cells : At K mg "_law_cells" sCells ["_law_script", "_law_top"] f__law_cells fd__law_cells
  e0 : Kt Cl.e0 []
  bA : Addr
  mgB : mg "CONSTANT_BOUNDS" = some (.ref bA)
  hdB : ∀ (w : W) (H : Hp), Hd w H (.ref bA) vConB.D
section
variable {K : PySem.W.Frag} {mg : Str → Option Value}
theorem Lib.f_Step_0 (L : Lib K mg) : (Cl.c 0).2[0]? = some ("_kind" : Str) := by rw [L.fs_Step]; rfl
theorem Lib.f_Step_1 (L : Lib K mg) : (Cl.c 0).2[1]? = some ("_what" : Str) := by rw [L.fs_Step]; rfl
theorem Lib.nd_Step (L : Lib K mg) : (Cl.c 0).2.Nodup := by rw [L.fs_Step]; decide +kernel
theorem Lib.f_Rule_0 (L : Lib K mg) : (Cl.c 1).2[0]? = some ("_steps" : Str) := by rw [L.fs_Rule]; rfl
theorem Lib.nd_Rule (L : Lib K mg) : (Cl.c 1).2.Nodup := by rw [L.fs_Rule]; decide +kernel
end
end TC
namespace TC
open PySem PySem.Spec PyProof.Rows L2 RZ
variable [Cl]
section
variable {P : Program} {w : World} {K : PySem.W.Frag} {mg : Str → Option Value} {base : Heap}
theorem kb_height_p {x qual : Str} {st : Stmt} {f : Addr} {fd : FuncData} (F : Fun K x qual st f fd) (h : ∀ (kV doc pm : Value) (an : Option Addr) (cdv ct : Value) (b0 : Value), bindArgs (PySem.W.fnOf x qual (defArgs st) (defBody st) (defScope st) .none kV doc pm an cdv ct) ⟨[], [("p", b0)]⟩ = (pure [("p", b0)] : Sem (List (Str × Value))) := by intros; rfl) : KBn K fd ["p"] 0 ["p"] (fun _ ws => rp [0] ws) (fun _ ws => rp [0] ws) := by
  obtain ⟨oc, od, kV, doc, pm, an, cdv, ct, osl, rfl, lk, hcd⟩ := F.ex
  refine ⟨fun s us ws X l1 l2 => ?_, fun {vs us zs ws} r1 r2 => vals_rp r2 _⟩
  match us, ws, l1, l2 with
  | [], [b0], _, _ => exact BindsTo.of_eq (h kV doc pm an cdv ct b0)
theorem sc_Step__d__kind : FnScope ["self"] ["self"] (defScope s_Step__d__kind) := ⟨rfl, rfl, rfl, by decide +kernel, rfl, by decide +kernel, by decide +kernel⟩
def b_Step__d__kind : XS := (xsRet (pl (xMap (gFld 0 0) (xVar 0))))
def x_Step__d__kind : GA := xFn 1 1 b_Step__d__kind
theorem ok_Step__d__kind (T : Blt mg) (L : Lib Cl.K mg) : FnOk P w Cl.K mg base CX0 1 L.f_Step__d__kind L.fd_Step__d__kind ["self"] (spD (spX x_Step__d__kind)) := by
  refine fnX (k := 0) (body := b_Step__d__kind) L.a_Step__d__kind.fn sc_Step__d__kind rfl rfl fun cdv A outer s H E hr => ?_
  have nd := sc_Step__d__kind.nd
  exact ⟨_, (xsT1 (xsret (dm_lift (ds_ret (xpl (xfld (de_fld 0 0 (xv (dv 0)) L.cl_Step L.n_Step__kind L.f_Step_0 L.nd_Step))))))), rfl⟩
theorem sc_Step__d__what : FnScope ["self"] ["self"] (defScope s_Step__d__what) := ⟨rfl, rfl, rfl, by decide +kernel, rfl, by decide +kernel, by decide +kernel⟩
def b_Step__d__what : XS := (xsRet (pl (xMap (gFld 0 1) (xVar 0))))
def x_Step__d__what : GA := xFn 1 1 b_Step__d__what
theorem ok_Step__d__what (T : Blt mg) (L : Lib Cl.K mg) : FnOk P w Cl.K mg base CX0 1 L.f_Step__d__what L.fd_Step__d__what ["self"] (spD (spX x_Step__d__what)) := by
  refine fnX (k := 0) (body := b_Step__d__what) L.a_Step__d__what.fn sc_Step__d__what rfl rfl fun cdv A outer s H E hr => ?_
  have nd := sc_Step__d__what.nd
  exact ⟨_, (xsT1 (xsret (dm_lift (ds_ret (xpl (xfld (de_fld 0 1 (xv (dv 0)) L.cl_Step L.n_Step__what L.f_Step_1 L.nd_Step))))))), rfl⟩
theorem sc_with_name : FnScope ["names", "name"] ["names", "name"] (defScope s_with_name) := ⟨rfl, rfl, rfl, by decide +kernel, rfl, by decide +kernel, by decide +kernel⟩
def b_with_name : XS := (xsSeq (xsIf (pl (xB (xBin (gIn false) (xVar 1) (xVar 0))))
 (xsRet (pl (xVar 0)))
 xsNext)
 (xsRet (pl (xCall gTuple (xCons (xCall gSortL (xCons (xLst (xStar (xVar 0) (xCons (xVar 1) xNil))) xNil)) xNil)))))
def x_with_name : GA := xFn 2 2 b_with_name
theorem ok_with_name (T : Blt mg) (L : Lib Cl.K mg) : FnOk P w Cl.K mg base CX0 1 L.f_with_name L.fd_with_name ["names", "name"] (spD (spX x_with_name)) := by
  refine fnX (k := 0) (body := b_with_name) L.a_with_name.fn sc_with_name rfl rfl fun cdv A outer s H E hr => ?_
  have nd := sc_with_name.nd
  exact ⟨_, (xsconsT (dmT_cons (xsif (dm_if (xplT (xtbin (ox_in (neg := false)) (dt_cmp do_in (xv (dv 1)) (xv (dv 0)))))
 (dm_one (xsret (dm_lift (ds_ret (xpl (xv (dv 0)))))))
 (xsnil dm_nil)))
 (xsT1 (xsret (dm_lift (ds_ret (xpl (xcall cx_tuple (de_callTy dc_tupleA T.tuple (xcons (da_cons (xcall cx_sortL (de_callB dc_sortedS T.sorted (xcons (da_cons (xlst (de_lst (xstar (da_star (xv (dv 0)) (xcons (da_cons (xv (dv 1)) (xnil da_nil))))))) (xnil da_nil))))) (xnil da_nil)))))))))))), rfl⟩
theorem sc_outside : FnScope ["row", "names", "name"] ["row", "names"] (defScope s_outside) := ⟨rfl, rfl, rfl, by decide +kernel, rfl, by decide +kernel, by decide +kernel⟩
def b_outside : XS := (xsRet (pl (xCall gTuple (xCons (xLc (xItV 0) (asgN (fun p => p) 2) (xB (xBin (gIn true) (xVar 2) (xVar 1))) (xVar 2) [2]) xNil))))
def x_outside : GA := xFn 3 2 b_outside
theorem ok_outside (T : Blt mg) (L : Lib Cl.K mg) : FnOk P w Cl.K mg base CX0 1 L.f_outside L.fd_outside ["row", "names"] (spD (spX x_outside)) := by
  refine fnX (k := 0) (body := b_outside) L.a_outside.fn sc_outside rfl rfl fun cdv A outer s H E hr => ?_
  have nd := sc_outside.nd
  exact ⟨_, (xsT1 (xsret (dm_lift (ds_ret (xpl (xcall cx_tuple (de_callTy dc_tupleA T.tuple (xcons (da_cons (xlc gx_name tok_t (de_lc (own := [("name", 2)]) rfl nd (xitV (di_var 0 (dv 0))) (blkOk_by (N := ["row", "names", "name"]) (sc := defScope s_outside) (by decide +kernel)) (fun _ _ _ _ _ => dg_name (i := 2) nd) (fun _ _ _ _ _ => dts_one (xtbin (ox_in (neg := true)) (dt_cmp do_notin (xv (dv 2)) (xv (dv 1))))) (fun _ _ _ _ _ => (xv (dv 2))))) (xnil da_nil)))))))))), rfl⟩
theorem sc_forgotten : FnScope ["row", "name"] ["row", "name"] (defScope s_forgotten) := ⟨rfl, rfl, rfl, by decide +kernel, rfl, by decide +kernel, by decide +kernel⟩
def b_forgotten : XS := (xsRet (pl (xCall x_outside (xCons (xVar 0) (xCons (xTup (xCons (xVar 1) xNil)) xNil)))))
def x_forgotten : GA := xFn 2 2 b_forgotten
theorem ok_forgotten (T : Blt mg) (L : Lib Cl.K mg) : FnOk P w Cl.K mg base CX0 2 L.f_forgotten L.fd_forgotten ["row", "name"] (spD (spX x_forgotten)) := by
  refine fnX (k := 1) (body := b_forgotten) L.a_forgotten.fn sc_forgotten rfl rfl fun cdv A outer s H E hr => ?_
  have nd := sc_forgotten.nd
  exact ⟨_, (xsT1 (xsret (dm_lift (ds_ret (xpl (xcall spX_call (de_call (ok_outside T L) (hr.mono (by decide)) L.a_outside.mg L.a_outside.fn.kp L.a_outside.bd (xcons (da_cons (xv (dv 0)) (xcons (da_cons (xtup (de_tup (xcons (da_cons (xv (dv 1)) (xnil da_nil))))) (xnil da_nil)))))))))))), rfl⟩
theorem sc_touched : FnScope ["row", "name"] ["row", "name"] (defScope s_touched) := ⟨rfl, rfl, rfl, by decide +kernel, rfl, by decide +kernel, by decide +kernel⟩
def b_touched : XS := (xsRet (pl (xTup (xCons (xVar 1) (xStar (xCall x_forgotten (xCons (xVar 0) (xCons (xVar 1) xNil))) xNil)))))
def x_touched : GA := xFn 2 2 b_touched
theorem ok_touched (T : Blt mg) (L : Lib Cl.K mg) : FnOk P w Cl.K mg base CX0 3 L.f_touched L.fd_touched ["row", "name"] (spD (spX x_touched)) := by
  refine fnX (k := 2) (body := b_touched) L.a_touched.fn sc_touched rfl rfl fun cdv A outer s H E hr => ?_
  have nd := sc_touched.nd
  exact ⟨_, (xsT1 (xsret (dm_lift (ds_ret (xpl (xtup (de_tup (xcons (da_cons (xv (dv 1)) (xstar (da_star (xcall spX_call (de_call (ok_forgotten T L) (hr.mono (by decide)) L.a_forgotten.mg L.a_forgotten.fn.kp L.a_forgotten.bd (xcons (da_cons (xv (dv 0)) (xcons (da_cons (xv (dv 1)) (xnil da_nil))))))) (xnil da_nil)))))))))))), rfl⟩
theorem sc_capped : FnScope ["row", "number"] ["row", "number"] (defScope s_capped) := ⟨rfl, rfl, rfl, by decide +kernel, rfl, by decide +kernel, by decide +kernel⟩
def b_capped : XS := (xsRet (pl (xCall gTuple (xCons (xSl (xVar 0) xNo (xSo (xVar 1))) xNil))))
def x_capped : GA := xFn 2 2 b_capped
theorem ok_capped (T : Blt mg) (L : Lib Cl.K mg) : FnOk P w Cl.K mg base CX0 1 L.f_capped L.fd_capped ["row", "number"] (spD (spX x_capped)) := by
  refine fnX (k := 0) (body := b_capped) L.a_capped.fn sc_capped rfl rfl fun cdv A outer s H E hr => ?_
  have nd := sc_capped.nd
  exact ⟨_, (xsT1 (xsret (dm_lift (ds_ret (xpl (xcall cx_tuple (de_callTy dc_tupleA T.tuple (xcons (da_cons (xsl (de_slice (xv (dv 0)) (xno dp_none) (xso (dp_some (xv (dv 1)))))) (xnil da_nil)))))))))), rfl⟩
theorem sc_row_behind_step : FnScope ["kind", "what", "row"] ["kind", "what", "row"] (defScope s_row_behind_step) := ⟨rfl, rfl, rfl, by decide +kernel, rfl, by decide +kernel, by decide +kernel⟩
def b_row_behind_step : XS := (xsSeq (xsIf (pl (xB (xBin (gEq false) (xVar 0) (xC (.str "touch")))))
 (xsRet (pl (xCall x_touched (xCons (xVar 2) (xCons (xVar 1) xNil)))))
 xsNext)
 (xsSeq (xsIf (pl (xB (xBin (gEq false) (xVar 0) (xC (.str "forget")))))
 (xsRet (pl (xCall x_forgotten (xCons (xVar 2) (xCons (xVar 1) xNil)))))
 xsNext)
 (xsRet (pl (xCall x_capped (xCons (xVar 2) (xCons (xVar 1) xNil)))))))
def x_row_behind_step : GA := xFn 3 3 b_row_behind_step
theorem ok_row_behind_step (T : Blt mg) (L : Lib Cl.K mg) : FnOk P w Cl.K mg base CX0 4 L.f_row_behind_step L.fd_row_behind_step ["kind", "what", "row"] (spD (spX x_row_behind_step)) := by
  refine fnX (k := 3) (body := b_row_behind_step) L.a_row_behind_step.fn sc_row_behind_step rfl rfl fun cdv A outer s H E hr => ?_
  have nd := sc_row_behind_step.nd
  exact ⟨_, (xsconsT (dmT_cons (xsif (dm_if (xplT (xtbin (ox_eq (neg := false)) (dt_cmp (do_alt do_eq (do_eqD hr.units)) (xv (dv 0)) (xc (.str "touch") de_str))))
 (dm_one (xsret (dm_lift (ds_ret (xpl (xcall spX_call (de_call (ok_touched T L) (hr.mono (by decide)) L.a_touched.mg L.a_touched.fn.kp L.a_touched.bd (xcons (da_cons (xv (dv 2)) (xcons (da_cons (xv (dv 1)) (xnil da_nil))))))))))))
 (xsnil dm_nil)))
 (xsconsT (dmT_cons (xsif (dm_if (xplT (xtbin (ox_eq (neg := false)) (dt_cmp (do_alt do_eq (do_eqD hr.units)) (xv (dv 0)) (xc (.str "forget") de_str))))
 (dm_one (xsret (dm_lift (ds_ret (xpl (xcall spX_call (de_call (ok_forgotten T L) (hr.mono (by decide)) L.a_forgotten.mg L.a_forgotten.fn.kp L.a_forgotten.bd (xcons (da_cons (xv (dv 2)) (xcons (da_cons (xv (dv 1)) (xnil da_nil))))))))))))
 (xsnil dm_nil)))
 (xsT1 (xsret (dm_lift (ds_ret (xpl (xcall spX_call (de_call (ok_capped T L) (hr.mono (by decide)) L.a_capped.mg L.a_capped.fn.kp L.a_capped.bd (xcons (da_cons (xv (dv 2)) (xcons (da_cons (xv (dv 1)) (xnil da_nil)))))))))))))))), rfl⟩
end
end TC
namespace TC
open PySem PySem.Spec PyProof.Rows L2 RZ
variable [Cl]
section
variable {P : Program} {w : World} {K : PySem.W.Frag} {mg : Str → Option Value} {base : Heap}
theorem sc_told_by : FnScope ["steps", "names", "found", "row", "step"] ["steps"] (defScope s_told_by) := ⟨rfl, rfl, rfl, by decide +kernel, rfl, by decide +kernel, by decide +kernel⟩
def l_told_by_0 : XS := (xsSeq (xsIf (pl (xB (xBin (gEq false) (xMeth 0 x_Step__d__kind (xVar 4) xNil) (xC (.str "cap")))))
 (xsApp 2 (pl (xTup (xCons (xVar 1) (xCons (xBin gSub (xMeth 0 x_Step__d__what (xVar 4) xNil) (xCall gLen (xCons (xVar 3) xNil))) xNil)))))
 (xsSet 1 (pl (xCall x_with_name (xCons (xVar 1) (xCons (xMeth 0 x_Step__d__what (xVar 4) xNil) xNil))))))
 (xsSet 3 (pl (xCall x_row_behind_step (xCons (xMeth 0 x_Step__d__kind (xVar 4) xNil) (xCons (xMeth 0 x_Step__d__what (xVar 4) xNil) (xCons (xVar 3) xNil)))))))
def b_told_by : XS := (xsSeq (xsSet 1 (pl (xTup xNil)))
 (xsNew 2 xNilX
 (xsSeq (xsSet 3 (pl (xTup xNil)))
 (xsSeq (xsFor (pl (xItV 0)) (asgN XV.p 4) l_told_by_0)
 (xsRel (xsRet (pl (xTup (xCons (xVar 3) (xCons (xVar 1) (xCons (xVar 2) xNil)))))))))))
def x_told_by : GA := xFn 5 1 b_told_by
theorem ok_told_by (T : Blt mg) (L : Lib Cl.K mg) : FnOk P w Cl.K mg base CX0 5 L.f_told_by L.fd_told_by ["steps"] (spD (spX x_told_by)) := by
  refine fnX (k := 4) (body := b_told_by) L.a_told_by.fn sc_told_by rfl rfl fun cdv A outer s H E hr => ?_
  have nd := sc_told_by.nd
  exact ⟨_, (xsconsT (dmT_cons (xsset (dm_lift (ds_set (i := 1) nd (xpl (xtup (de_tup (xnil da_nil)))))))
 (xsnew (dmT_new (i := 2) nd (xnilX da_nil)
 (xsconsT (dmT_cons (xsset (dm_lift (ds_set (i := 3) nd (xpl (xtup (de_tup (xnil da_nil)))))))
 (xsconsT (dmT_cons (xsfor gm_name (dm_for PassesOwn.never rfl (xplI (xitV (di_var 0 (dv 0)))) (dg_name (i := 4) nd)
 (xscons (dm_cons (xsif (dm_if (xplT (xtbin (ox_eq (neg := false)) (dt_cmp (do_alt do_eq (do_eqD hr.units)) (xprop spX_call (de_prop 0 (xv (dv 4)) L.cl_Step L.pr_Step__d__kind (ok_Step__d__kind T L) (hr.mono (by decide)) L.a_Step__d__kind.bd)) (xc (.str "cap") de_str))))
 (dm_one (xsapp (dm_app (i := 2) (dv 2) (xpl (xtup (de_tup (xcons (da_cons (xv (dv 1)) (xcons (da_cons (xbin ox_sub (de_op do_sub (xprop spX_call (de_prop 0 (xv (dv 4)) L.cl_Step L.pr_Step__d__what (ok_Step__d__what T L) (hr.mono (by decide)) L.a_Step__d__what.bd)) (xcall cx_len (de_callB dc_lenA T.len (xcons (da_cons (xv (dv 3)) (xnil da_nil))))))) (xnil da_nil)))))))))))
 (dm_one (xsset (dm_lift (ds_set (i := 1) nd (xpl (xcall spX_call (de_call (ok_with_name T L) (hr.mono (by decide)) L.a_with_name.mg L.a_with_name.fn.kp L.a_with_name.bd (xcons (da_cons (xv (dv 1)) (xcons (da_cons (xprop spX_call (de_prop 0 (xv (dv 4)) L.cl_Step L.pr_Step__d__what (ok_Step__d__what T L) (hr.mono (by decide)) L.a_Step__d__what.bd)) (xnil da_nil))))))))))))))
 (dm_one (xsset (dm_lift (ds_set (i := 3) nd (xpl (xcall spX_call (de_call (ok_row_behind_step T L) (hr.mono (by decide)) L.a_row_behind_step.mg L.a_row_behind_step.fn.kp L.a_row_behind_step.bd (xcons (da_cons (xprop spX_call (de_prop 0 (xv (dv 4)) L.cl_Step L.pr_Step__d__kind (ok_Step__d__kind T L) (hr.mono (by decide)) L.a_Step__d__kind.bd)) (xcons (da_cons (xprop spX_call (de_prop 0 (xv (dv 4)) L.cl_Step L.pr_Step__d__what (ok_Step__d__what T L) (hr.mono (by decide)) L.a_Step__d__what.bd)) (xcons (da_cons (xv (dv 3)) (xnil da_nil))))))))))))))))))
 (xsrel (dmT_rel (xsT1 (xsret (dm_lift (ds_ret (xpl (xtup (de_tup (xcons (da_cons (xv (dv 3)) (xcons (da_cons (xv (dv 1)) (xcons (da_cons (xv (dv 2)) (xnil da_nil)))))))))))))))))))))))), rfl⟩
theorem sc_tight_chain : FnScope ["bounds", "falling", "names", "number", "kept"] ["bounds"] (defScope s_tight_chain) := ⟨rfl, rfl, rfl, by decide +kernel, rfl, by decide +kernel, by decide +kernel⟩
def l_tight_chain_0 : XS := (xsIf (rlT (xOr (xB (xBin (gEq false) (xVar 1) (xLst xNil))) (xB (xBin gLt (xVar 3) (xBin gIx (xBin gIx (xVar 1) (xMap gNeg (xC (.int 1)))) (xC (.int 1)))))))
 (xsApp 1 (pl (xTup (xCons (xVar 2) (xCons (xVar 3) xNil)))))
 xsNext)
def l_tight_chain_1 : XS := (xsIf (rlT (xOr (xB (xBin (gEq false) (xVar 4) (xLst xNil))) (xB (xBin gLt (xBin gAdd (xVar 3) (xCall gLen (xCons (xVar 2) xNil))) (xBin gAdd (xBin gIx (xBin gIx (xVar 4) (xMap gNeg (xC (.int 1)))) (xC (.int 1))) (xCall gLen (xCons (xBin gIx (xBin gIx (xVar 4) (xMap gNeg (xC (.int 1)))) (xC (.int 0))) xNil)))))))
 (xsApp 4 (pl (xTup (xCons (xVar 2) (xCons (xVar 3) xNil)))))
 xsNext)
def b_tight_chain : XS := (xsNew 1 xNilX
 (xsSeq (xsFor (pl (xItV 0)) (asgT XV.p [2, 3]) l_tight_chain_0)
 (xsRel (xsNew 4 xNilX
 (xsSeq (xsFor (pl (xItL (xMap gRev (xVar 1)))) (asgT XV.p [2, 3]) l_tight_chain_1)
 (xsRel (xsRet (pl (xCall gTuple (xCons (xMap gRev (xVar 4)) xNil))))))))))
def x_tight_chain : GA := xFn 5 1 b_tight_chain
theorem ok_tight_chain (T : Blt mg) (L : Lib Cl.K mg) : FnOk P w Cl.K mg base CX0 1 L.f_tight_chain L.fd_tight_chain ["bounds"] (spD (spX x_tight_chain)) := by
  refine fnX (k := 0) (body := b_tight_chain) L.a_tight_chain.fn sc_tight_chain rfl rfl fun cdv A outer s H E hr => ?_
  have nd := sc_tight_chain.nd
  exact ⟨_, (xsnew (dmT_new (i := 1) nd (xnilX da_nil)
 (xsconsT (dmT_cons (xsfor gm_tup2 (dm_for PassesOwn.never rfl (xplI (xitV (di_var 0 (dv 0)))) (dg_tup2 (i := 2) (j := 3) rfl nd)
 (dm_one (xsif (dm_if (xrlT (dt_rel (Dw.pt (xwor (dw_or (xtbin (ox_eq (neg := false)) (dt_cmp (do_alt do_eq (do_eqD hr.units)) (xv (dv 1)) (xlst (de_lst (xnil da_nil))))) (dw_or1 (xtbin ox_lt (dt_cmp do_lt (xv (dv 3)) (xix (de_ix (xix (de_ix (xv (dv 1)) (xneg (de_neg (xc (.int 1) de_int))))) (xc (.int 1) de_int)))))))))))
 (dm_one (xsapp (dm_app (i := 1) (dv 1) (xpl (xtup (de_tup (xcons (da_cons (xv (dv 2)) (xcons (da_cons (xv (dv 3)) (xnil da_nil)))))))))))
 (xsnil dm_nil))))))
 (xsrel (dmT_rel (xsnew (dmT_new (i := 4) nd (xnilX da_nil)
 (xsconsT (dmT_cons (xsfor gm_tup2 (dm_for PassesOwn.never rfl (xplI (xitL (di_lst (xrev (de_rev (xv (dv 1)))) (pi_list pe_self)))) (dg_tup2 (i := 2) (j := 3) rfl nd)
 (dm_one (xsif (dm_if (xrlT (dt_rel (Dw.pt (xwor (dw_or (xtbin (ox_eq (neg := false)) (dt_cmp (do_alt do_eq (do_eqD hr.units)) (xv (dv 4)) (xlst (de_lst (xnil da_nil))))) (dw_or1 (xtbin ox_lt (dt_cmp do_lt (xbin ox_add (de_op do_add (xv (dv 3)) (xcall cx_len (de_callB dc_lenA T.len (xcons (da_cons (xv (dv 2)) (xnil da_nil))))))) (xbin ox_add (de_op do_add (xix (de_ix (xix (de_ix (xv (dv 4)) (xneg (de_neg (xc (.int 1) de_int))))) (xc (.int 1) de_int))) (xcall cx_len (de_callB dc_lenA T.len (xcons (da_cons (xix (de_ix (xix (de_ix (xv (dv 4)) (xneg (de_neg (xc (.int 1) de_int))))) (xc (.int 0) de_int))) (xnil da_nil)))))))))))))))
 (dm_one (xsapp (dm_app (i := 4) (dv 4) (xpl (xtup (de_tup (xcons (da_cons (xv (dv 2)) (xcons (da_cons (xv (dv 3)) (xnil da_nil)))))))))))
 (xsnil dm_nil))))))
 (xsrel (dmT_rel (xsT1 (xsret (dm_lift (ds_ret (xpl (xcall cx_tuple (de_callTy dc_tupleA T.tuple (xcons (da_cons (xrev (de_rev (xv (dv 4)))) (xnil da_nil)))))))))))))))))))))), rfl⟩
theorem sc_shape_of : FnScope ["steps", "front", "names", "found", "bound", "name"] ["steps"] (defScope s_shape_of) := ⟨rfl, rfl, rfl, by decide +kernel, rfl, by decide +kernel, by decide +kernel⟩
def b_shape_of : XS := (xsSeq (xsAsg (pl (xCall x_told_by (xCons (xVar 0) xNil))) (asgT XV.p [1, 2, 3]))
 (xsSeq (xsIf (pl (xB (xCall gAny (xCons (xLc (xItV 3) (asgN (fun p => p) 4) xYes (xBin gLt (xBin gIx (xVar 4) (xC (.int 1))) (xC (.int 1))) [4]) xNil))))
 (xsRet (pl (xTup (xCons (xVar 1) (xCons (xTup xNil) (xCons (xC vConB) xNil))))))
 xsNext)
 (xsRet (pl (xTup (xCons (xVar 1) (xCons (xCall gTuple (xCons (xLc (xItV 2) (asgN (fun p => p) 5) (xB (xBin (gIn true) (xVar 5) (xVar 1))) (xVar 5) [5]) xNil)) (xCons (xCall x_tight_chain (xCons (xVar 3) xNil)) xNil))))))))
def x_shape_of : GA := xFn 6 1 b_shape_of
theorem ok_shape_of (T : Blt mg) (L : Lib Cl.K mg) : FnOk P w Cl.K mg base CX0 6 L.f_shape_of L.fd_shape_of ["steps"] (spD (spX x_shape_of)) := by
  refine fnX (k := 5) (body := b_shape_of) L.a_shape_of.fn sc_shape_of rfl rfl fun cdv A outer s H E hr => ?_
  have nd := sc_shape_of.nd
  exact ⟨_, (xsconsT (dmT_cons (xsasg gm_tup3 (dm_lift (ds_asg (xpl (xcall spX_call (de_call (ok_told_by T L) (hr.mono (by decide)) L.a_told_by.mg L.a_told_by.fn.kp L.a_told_by.bd (xcons (da_cons (xv (dv 0)) (xnil da_nil)))))) (dg_tup3 (i := 1) (j := 2) (k := 3) rfl nd))))
 (xsconsT (dmT_cons (xsif (dm_if (xplT (xtb (dt_val (xcall cx_any (de_callB (dc_any rfl) T.any (xcons (da_cons (xlc gx_name tok_yes (de_lc (own := [("bound", 4)]) rfl nd (xitV (di_var 3 (dv 3))) (blkOk_by (N := ["steps", "front", "names", "found", "bound", "name"]) (sc := defScope s_shape_of) (by decide +kernel)) (fun _ _ _ _ _ => dg_name (i := 4) nd) (fun _ _ _ _ _ => dts_nil) (fun _ _ _ _ _ => (xbin ox_lt (de_cmp do_lt (xix (de_ix (xv (dv 4)) (xc (.int 1) de_int))) (xc (.int 1) de_int)))))) (xnil da_nil))))))))
 (dm_one (xsret (dm_lift (ds_ret (xpl (xtup (de_tup (xcons (da_cons (xv (dv 1)) (xcons (da_cons (xtup (de_tup (xnil da_nil))) (xcons (da_cons (xc vConB (de_glob L.mgB L.hdB)) (xnil da_nil))))))))))))))
 (xsnil dm_nil)))
 (xsT1 (xsret (dm_lift (ds_ret (xpl (xtup (de_tup (xcons (da_cons (xv (dv 1)) (xcons (da_cons (xcall cx_tuple (de_callTy dc_tupleA T.tuple (xcons (da_cons (xlc gx_name tok_t (de_lc (own := [("name", 5)]) rfl nd (xitV (di_var 2 (dv 2))) (blkOk_by (N := ["steps", "front", "names", "found", "bound", "name"]) (sc := defScope s_shape_of) (by decide +kernel)) (fun _ _ _ _ _ => dg_name (i := 5) nd) (fun _ _ _ _ _ => dts_one (xtbin (ox_in (neg := true)) (dt_cmp do_notin (xv (dv 5)) (xv (dv 1))))) (fun _ _ _ _ _ => (xv (dv 5))))) (xnil da_nil))))) (xcons (da_cons (xcall spX_call (de_call (ok_tight_chain T L) (hr.mono (by decide)) L.a_tight_chain.mg L.a_tight_chain.fn.kp L.a_tight_chain.bd (xcons (da_cons (xv (dv 3)) (xnil da_nil))))) (xnil da_nil)))))))))))))))))), rfl⟩
theorem sc_Rule__d__steps : FnScope ["self"] ["self"] (defScope s_Rule__d__steps) := ⟨rfl, rfl, rfl, by decide +kernel, rfl, by decide +kernel, by decide +kernel⟩
def b_Rule__d__steps : XS := (xsRet (pl (xMap (gFld 1 0) (xVar 0))))
def x_Rule__d__steps : GA := xFn 1 1 b_Rule__d__steps
theorem ok_Rule__d__steps (T : Blt mg) (L : Lib Cl.K mg) : FnOk P w Cl.K mg base CX0 1 L.f_Rule__d__steps L.fd_Rule__d__steps ["self"] (spD (spX x_Rule__d__steps)) := by
  refine fnX (k := 0) (body := b_Rule__d__steps) L.a_Rule__d__steps.fn sc_Rule__d__steps rfl rfl fun cdv A outer s H E hr => ?_
  have nd := sc_Rule__d__steps.nd
  exact ⟨_, (xsT1 (xsret (dm_lift (ds_ret (xpl (xfld (de_fld 1 0 (xv (dv 0)) L.cl_Rule L.n_Rule__steps L.f_Rule_0 L.nd_Rule))))))), rfl⟩
theorem sc_form_of : FnScope ["rule"] ["rule"] (defScope s_form_of) := ⟨rfl, rfl, rfl, by decide +kernel, rfl, by decide +kernel, by decide +kernel⟩
def b_form_of : XS := (xsRet (pl (xCall x_shape_of (xCons (xMeth 1 x_Rule__d__steps (xVar 0) xNil) xNil))))
def x_form_of : GA := xFn 1 1 b_form_of
theorem ok_form_of (T : Blt mg) (L : Lib Cl.K mg) : FnOk P w Cl.K mg base CX0 7 L.f_form_of L.fd_form_of ["rule"] (spD (spX x_form_of)) := by
  refine fnX (k := 6) (body := b_form_of) L.a_form_of.fn sc_form_of rfl rfl fun cdv A outer s H E hr => ?_
  have nd := sc_form_of.nd
  exact ⟨_, (xsT1 (xsret (dm_lift (ds_ret (xpl (xcall spX_call (de_call (ok_shape_of T L) (hr.mono (by decide)) L.a_shape_of.mg L.a_shape_of.fn.kp L.a_shape_of.bd (xcons (da_cons (xprop spX_call (de_prop 1 (xv (dv 0)) L.cl_Rule L.pr_Rule__d__steps (ok_Rule__d__steps T L) (hr.mono (by decide)) L.a_Rule__d__steps.bd)) (xnil da_nil)))))))))), rfl⟩
theorem sc_is_bounded : FnScope ["form"] ["form"] (defScope s_is_bounded) := ⟨rfl, rfl, rfl, by decide +kernel, rfl, by decide +kernel, by decide +kernel⟩
def b_is_bounded : XS := (xsRet (pl (xBin gNotInD (xBin gIx (xVar 0) (xC (.int 2))) (xTup (xCons (xTup xNil) (xCons (xC vConB) xNil))))))
def x_is_bounded : GA := xFn 1 1 b_is_bounded
theorem ok_is_bounded (T : Blt mg) (L : Lib Cl.K mg) : FnOk P w Cl.K mg base CX0 1 L.f_is_bounded L.fd_is_bounded ["form"] (spD (spX x_is_bounded)) := by
  refine fnX (k := 0) (body := b_is_bounded) L.a_is_bounded.fn sc_is_bounded rfl rfl fun cdv A outer s H E hr => ?_
  have nd := sc_is_bounded.nd
  exact ⟨_, (xsT1 (xsret (dm_lift (ds_ret (xpl (xbin ox_notinD (de_cmp (do_notinD hr.units) (xix (de_ix (xv (dv 0)) (xc (.int 2) de_int))) (xtup (de_tup (xcons (da_cons (xtup (de_tup (xnil da_nil))) (xcons (da_cons (xc vConB (de_glob L.mgB L.hdB)) (xnil da_nil)))))))))))))), rfl⟩
theorem sc_height_of : FnScope ["chain", "many", "reaches", "place", "names", "number"] ["chain", "many"] (defScope s_height_of) := ⟨rfl, rfl, rfl, by decide +kernel, rfl, by decide +kernel, by decide +kernel⟩
def b_height_of : XS := (xsSeq (xsSet 2 (pl (xLc (xItR (xBin gAdd (xVar 1) (xC (.int 1)))) (asgN (fun p => p) 3) xYes (xCall gMin1 (xCons (xLc (xItV 0) (asgT (fun p => p) [4, 5]) xYes (xBin gAdd (xVar 5) (xCall gMax2 (xCons (xC (.int 0)) (xCons (xBin gSub (xCall gLen (xCons (xVar 4) xNil)) (xVar 3)) xNil)))) [4, 5]) xNil)) [3])))
 (xsRet (pl (xBin gSub (xCall gSum (xCons (xVar 2) xNil)) (xCall gLen (xCons (xVar 2) xNil))))))
def x_height_of : GA := xFn 6 2 b_height_of
theorem ok_height_of (T : Blt mg) (L : Lib Cl.K mg) : FnOk P w Cl.K mg base CX0 1 L.f_height_of L.fd_height_of ["chain", "many"] (spD (spX x_height_of)) := by
  refine fnX (k := 0) (body := b_height_of) L.a_height_of.fn sc_height_of rfl rfl fun cdv A outer s H E hr => ?_
  have nd := sc_height_of.nd
  exact ⟨_, (xsconsT (dmT_cons (xssetlc gx_name tok_yes (dm_lift (ds_setLc (i := 2) (own := [("place", 3)]) rfl nd (xitR (di_range T.range (xbin ox_add (de_op do_add (xv (dv 1)) (xc (.int 1) de_int))))) (blkOk_by (N := ["chain", "many", "reaches", "place", "names", "number"]) (sc := defScope s_height_of) (by decide +kernel)) (fun _ _ _ _ _ => dg_name (i := 3) nd) (fun _ _ _ _ _ => dts_nil) (fun _ _ _ _ _ => (xcall cx_min1 (de_callB (dc_min1 rfl) T.min (xcons (da_cons (xlc gx_tup2 tok_yes (de_lc (own := [("names", 4), ("number", 5)]) rfl nd (xitV (di_var 0 (dv 0))) (blkOk_eq (N2 := ["chain", "many", "reaches", "place", "names", "number"]) (sc2 := ({ kind := .function, names := [(".0", .local), ("place", .cell), ("min", .globalImplicit), ("chain", .cell)], isGenerator := false, isCoroutine := false } : Scope)) rfl rfl (by decide +kernel)) (fun _ _ _ _ _ => dg_tup2 (i := 4) (j := 5) rfl nd) (fun _ _ _ _ _ => dts_nil) (fun _ _ _ _ _ => (xbin ox_add (de_op do_add (xv (dv 5)) (xcall cx_max2 (de_callB (dc_max2 rfl) T.max (xcons (da_cons (xc (.int 0) de_int) (xcons (da_cons (xbin ox_sub (de_op do_sub (xcall cx_len (de_callB dc_lenA T.len (xcons (da_cons (xv (dv 4)) (xnil da_nil))))) (xv (dv 3)))) (xnil da_nil)))))))))))) (xnil da_nil)))))))))
 (xsT1 (xsret (dm_lift (ds_ret (xpl (xbin ox_sub (de_op do_sub (xcall cx_sum (de_callB (dc_sum rfl) T.sum (xcons (da_cons (xv (dv 2)) (xnil da_nil))))) (xcall cx_len (de_callB dc_lenA T.len (xcons (da_cons (xv (dv 2)) (xnil da_nil)))))))))))))), rfl⟩
theorem sc_names_of : FnScope ["form", "front", "gone", "_"] ["form"] (defScope s_names_of) := ⟨rfl, rfl, rfl, by decide +kernel, rfl, by decide +kernel, by decide +kernel⟩
def b_names_of : XS := (xsSeq (xsAsg (pl (xVar 0)) (asgT XV.p [1, 2, 3]))
 (xsRet (pl (xCall gTuple (xCons (xCall gSortL (xCons (xLst (xStar (xVar 1) (xStar (xVar 2) xNil))) xNil)) xNil)))))
def x_names_of : GA := xFn 4 1 b_names_of
theorem ok_names_of (T : Blt mg) (L : Lib Cl.K mg) : FnOk P w Cl.K mg base CX0 1 L.f_names_of L.fd_names_of ["form"] (spD (spX x_names_of)) := by
  refine fnX (k := 0) (body := b_names_of) L.a_names_of.fn sc_names_of rfl rfl fun cdv A outer s H E hr => ?_
  have nd := sc_names_of.nd
  exact ⟨_, (xsconsT (dmT_cons (xsasg gm_tup3 (dm_lift (ds_asg (xpl (xv (dv 0))) (dg_tup3 (i := 1) (j := 2) (k := 3) rfl nd))))
 (xsT1 (xsret (dm_lift (ds_ret (xpl (xcall cx_tuple (de_callTy dc_tupleA T.tuple (xcons (da_cons (xcall cx_sortL (de_callB dc_sortedS T.sorted (xcons (da_cons (xlst (de_lst (xstar (da_star (xv (dv 1)) (xstar (da_star (xv (dv 2)) (xnil da_nil))))))) (xnil da_nil))))) (xnil da_nil)))))))))))), rfl⟩
end
end TC
namespace TC
open PySem PySem.Spec PyProof.Rows L2 RZ
variable [Cl]
section
variable {P : Program} {w : World} {K : PySem.W.Frag} {mg : Str → Option Value} {base : Heap}
theorem sc_height : FnScope ["p", "form"] ["p"] (defScope s_height) := ⟨rfl, rfl, rfl, by decide +kernel, rfl, by decide +kernel, by decide +kernel⟩
def b_height : XS := (xsSeq (xsSet 1 (pl (xCall x_form_of (xCons (xVar 0) xNil))))
 (xsRet (pl (xIf (xB (xCall x_is_bounded (xCons (xVar 1) xNil))) (xCall x_height_of (xCons (xBin gIx (xVar 1) (xC (.int 2))) (xCons (xCall gLen (xCons (xCall x_names_of (xCons (xVar 1) xNil)) xNil)) xNil))) (xC .non)))))
def x_height : GA := xFn 2 1 b_height
theorem ok_height (T : Blt mg) (L : Lib Cl.K mg) : FnOk P w Cl.K mg base CX0 8 L.f_height L.fd_height ["p"] (spD (spX x_height)) := by
  refine fnX (k := 7) (body := b_height) L.a_height.fn sc_height rfl rfl fun cdv A outer s H E hr => ?_
  have nd := sc_height.nd
  exact ⟨_, (xsconsT (dmT_cons (xsset (dm_lift (ds_set (i := 1) nd (xpl (xcall spX_call (de_call (ok_form_of T L) (hr.mono (by decide)) L.a_form_of.mg L.a_form_of.fn.kp L.a_form_of.bd (xcons (da_cons (xv (dv 0)) (xnil da_nil)))))))))
 (xsT1 (xsret (dm_lift (ds_ret (xpl (xif (de_if (xtb (dt_val (xcall spX_call (de_call (ok_is_bounded T L) (hr.mono (by decide)) L.a_is_bounded.mg L.a_is_bounded.fn.kp L.a_is_bounded.bd (xcons (da_cons (xv (dv 1)) (xnil da_nil))))))) (xcall spX_call (de_call (ok_height_of T L) (hr.mono (by decide)) L.a_height_of.mg L.a_height_of.fn.kp L.a_height_of.bd (xcons (da_cons (xix (de_ix (xv (dv 1)) (xc (.int 2) de_int))) (xcons (da_cons (xcall cx_len (de_callB dc_lenA T.len (xcons (da_cons (xcall spX_call (de_call (ok_names_of T L) (hr.mono (by decide)) L.a_names_of.mg L.a_names_of.fn.kp L.a_names_of.bd (xcons (da_cons (xv (dv 1)) (xnil da_nil))))) (xnil da_nil))))) (xnil da_nil))))))) (xc .non de_non)))))))))), rfl⟩
theorem sc_Rule__d____init__ : FnScope ["self", "steps"] ["self", "steps"] (defScope s_Rule__d____init__) := ⟨rfl, rfl, rfl, by decide +kernel, rfl, by decide +kernel, by decide +kernel⟩
def x_Rule__d____init__ : GI := fun ps => match ps with
  | [t] => (gTuple [t]).bind fun u => .ret [u]
  | _ => .fail
theorem inX_Rule__d____init__ : InX (inX x_Rule__d____init__) x_Rule__d____init__ := inX_in
theorem ok_Rule__d____init__ (T : Blt mg) (L : Lib Cl.K mg) : FnOk P w Cl.K mg base CX0 1 L.f_Rule__d____init__ L.fd_Rule__d____init__ ["self", "steps"] (spInit 1 (inX x_Rule__d____init__)) := by
  refine L.a_Rule__d____init__.fn.ok sc_Rule__d____init__ (fun vs H Q E h => ?_) (fun cdv A outer s H vs Q E hr h => ?_)
  · obtain ⟨wd, Hb, a, dx, ds, us, m, Q', _, rfl, _, _, _, _, _, hds, _, ⟨ps, rfl, h⟩, _⟩ := h
    have := hds.len
    rw [PDs_len] at this
    unfold x_Rule__d____init__ at h
    split at h
    · show us.length + 1 = 2
      rw [this]; rfl
    · exact h.elim
  · obtain ⟨wd, Hb, a, dx, ds, us, m, Q', ⟨hb, hbH⟩, rfl, ha, hdx, ne, na, ndx, hds, hu, ⟨ps, rfl, h⟩, c⟩ := h
    have nd := sc_Rule__d____init__.nd
    unfold x_Rule__d____init__ at h
    split at h
    · next t =>
      refine ⟨_, pss_one (ps_fld (pv 0) (pe_callTy call_tuple_of (by rfl) T.tuple (by decide +kernel) (pa_cons (pv 1) pa_nil)) rfl), ?_⟩
      rw [PDs, PDs] at hds
      obtain ⟨v1, r1, rfl, k1, k2⟩ := hds.uncons
      cases k2.unnil
      have na' : wd.u ≠ some a := fun z => na (.inl z)
      have e1 : ∀ v : V, putF "_steps" v [] = (Cl.c 1).2.zip [v] := fun v => by rw [L.fs_Rule]; rfl
      have fin : ∀ o, Fr wd Hb (upd H a o) := fun o b x nu e => by rw [upd_ne (ne_of_none e hb)]; exact hbH b x e
      have h := Tr.wp_bind.mp h
      unfold gTuple at h
      split at h
      · next l e =>
        cases e
        have q : Q' (PDs [Pv.tup l]) m := h
        rw [PDs, PDs, Pv.D] at q
        have k0 := k1
        rw [Pv.D, Hd.lst] at k1
        obtain ⟨b, vs, rfl, nb, hp, hvs⟩ := k1
        refine ⟨_, rfl, b, vs, rfl, .inl ⟨SqL.of (hbH _ _ hp), fun p hp2 => ?_⟩⟩
        have hpa : p ≠ a := fun z => by rw [z, ha] at hp2; cases hp2
        have hap : upd H p (.tup vs) a = some (.ins (Cl.c 1).1 dx []) := by rw [upd_ne (Ne.symm hpa)]; exact ha
        refine ⟨_, rfl, a, _, dx, [], rfl, hap, L.cl_Rule, L.n_Rule__steps, (by show 0 < 1000; decide), ?_⟩
        have fr2 : Fr wd Hb (upd (upd H p (.tup vs)) a (.ins (Cl.c 1).1 dx (putF "_steps" (.ref p) []))) := fun b x nu e => by
          rw [upd_ne (ne_of_none e hb), upd_ne (ne_of_none (hbH b x e) hp2)]; exact hbH b x e
        refine c [.tup (PDs l)] m _ [.ref p] (fun b o nb nu e => by rw [upd_ne nb, upd_ne (ne_of_none e hp2)]; exact e) ((hu.upd hp2).inst na) (by rw [upd_same, e1]) (.cons ?_ .nil) q
        rw [Hd.tup]
        exact ⟨p, vs, rfl, .new (hu.new hp2) (by rw [upd_ne hpa, upd_same]), hvs.fr fr2⟩
      · next l e =>
        cases e
        have q : Q' (PDs [Pv.tup l]) m := h
        rw [PDs, PDs, Pv.D] at q
        have k0 := k1
        rw [Pv.D] at k0
        rw [Pv.D, Hd.tup] at k1
        obtain ⟨b, vs, rfl, hp, hvs⟩ := k1
        refine ⟨_, rfl, b, vs, rfl, .inr ⟨(hp.keep fun o _ e => hbH _ _ e).sq rfl, ?_⟩⟩
        refine ⟨_, rfl, a, _, dx, [], rfl, ha, L.cl_Rule, L.n_Rule__steps, (by show 0 < 1000; decide), ?_⟩
        exact c [.tup (PDs l)] m _ [.ref b] (fun b o nb nu e => by rw [upd_ne nb]; exact e) (hu.inst na) (by rw [upd_same, e1]) (.cons (k0.fr (fin _)) .nil) q
      · exact h.elim
    · exact h.elim
theorem sc_is_numeral : FnScope ["text", "sign"] ["text"] (defScope s_is_numeral) := ⟨rfl, rfl, rfl, by decide +kernel, rfl, by decide +kernel, by decide +kernel⟩
def b_is_numeral : XS := (xsSeq (xsIf (pl (xOr (xB (xBin (gEq false) (xVar 0) (xC (.str "")))) (xNot (xB (xCall gAll (xCons (xLc (xItV 0) (asgN (fun p => p) 1) xYes (xChain gLeS gLeS (xC (.str "0")) (xVar 1) (xC (.str "9"))) [1]) xNil))))))
 (xsRet (pl (xC (.bl false))))
 xsNext)
 (xsRet (pl (xOrV (xBin (gEq false) (xVar 0) (xC (.str "0"))) (xBin (gEq true) (xBin gIx (xVar 0) (xC (.int 0))) (xC (.str "0")))))))
def x_is_numeral : GA := xFn 2 1 b_is_numeral
theorem ok_is_numeral (T : Blt mg) (L : Lib Cl.K mg) : FnOk P w Cl.K mg base CX0 1 L.f_is_numeral L.fd_is_numeral ["text"] (spD (spX x_is_numeral)) := by
  refine fnX (k := 0) (body := b_is_numeral) L.a_is_numeral.fn sc_is_numeral rfl rfl fun cdv A outer s H E hr => ?_
  have nd := sc_is_numeral.nd
  exact ⟨_, (xsconsT (dmT_cons (xsif (dm_if (xplT (Dw.pt (xwor (dw_or (xtbin (ox_eq (neg := false)) (dt_cmp (do_alt do_eq (do_eqD hr.units)) (xv (dv 0)) (xc (.str "") de_str))) (dw_or1 (xtnot (dt_not (xtb (dt_val (xcall cx_all (de_callB (dc_all rfl) T.all (xcons (da_cons (xlc gx_name tok_yes (de_lc (own := [("sign", 1)]) rfl nd (xitV (di_var 0 (dv 0))) (blkOk_by (N := ["text", "sign"]) (sc := defScope s_is_numeral) (by decide +kernel)) (fun _ _ _ _ _ => dg_name (i := 1) nd) (fun _ _ _ _ _ => dts_nil) (fun _ _ _ _ _ => (xchain ox_leS ox_leS (de_chain do_leS do_leS (xc (.str "0") de_str) (xv (dv 1)) (xc (.str "9") de_str)))))) (xnil da_nil))))))))))))))
 (dm_one (xsret (dm_lift (ds_ret (xpl (xc (.bl false) de_bl))))))
 (xsnil dm_nil)))
 (xsT1 (xsret (dm_lift (ds_ret (xpl (xorv (de_or (xbin (ox_eq (neg := false)) (de_cmp (do_alt do_eq (do_eqD hr.units)) (xv (dv 0)) (xc (.str "0") de_str))) (de_one (xbin (ox_eq (neg := true)) (de_cmp (do_alt do_ne (do_neD hr.units)) (xix (de_ix (xv (dv 0)) (xc (.int 0) de_int))) (xc (.str "0") de_str))))))))))))), rfl⟩
theorem sc_is_number : FnScope ["thing"] ["thing"] (defScope s_is_number) := ⟨rfl, rfl, rfl, by decide +kernel, rfl, by decide +kernel, by decide +kernel⟩
def b_is_number : XS := (xsRet (pl (xAndV (xMap (gIsi "int") (xVar 0)) (xNotV (xMap (gIsi "bool") (xVar 0))))))
def x_is_number : GA := xFn 1 1 b_is_number
theorem ok_is_number (T : Blt mg) (L : Lib Cl.K mg) : FnOk P w Cl.K mg base CX0 1 L.f_is_number L.fd_is_number ["thing"] (spD (spX x_is_number)) := by
  refine fnX (k := 0) (body := b_is_number) L.a_is_number.fn sc_is_number rfl rfl fun cdv A outer s H E hr => ?_
  have nd := sc_is_number.nd
  exact ⟨_, (xsT1 (xsret (dm_lift (ds_ret (xpl (xandv (de_and (xisi (de_isi (a := "int") T.isinstance (xv (dv 0)) T.int)) (de_one (xnotv (de_not (xisi (de_isi (a := "bool") T.isinstance (xv (dv 0)) T.bool)))))))))))), rfl⟩
theorem sc_is_name : FnScope ["thing", "letter"] ["thing"] (defScope s_is_name) := ⟨rfl, rfl, rfl, by decide +kernel, rfl, by decide +kernel, by decide +kernel⟩
def b_is_name : XS := (xsSeq (xsIf (pl (xOr (xNot (xB (xMap (gIsi "str") (xVar 0)))) (xB (xBin (gEq false) (xVar 0) (xC (.str ""))))))
 (xsRet (pl (xC (.bl false))))
 xsNext)
 (xsRet (pl (xCall gAll (xCons (xLc (xItV 0) (asgN (fun p => p) 1) xYes (xChain gLeS gLeS (xC (.str "a")) (xVar 1) (xC (.str "z"))) [1]) xNil)))))
def x_is_name : GA := xFn 2 1 b_is_name
theorem ok_is_name (T : Blt mg) (L : Lib Cl.K mg) : FnOk P w Cl.K mg base CX0 1 L.f_is_name L.fd_is_name ["thing"] (spD (spX x_is_name)) := by
  refine fnX (k := 0) (body := b_is_name) L.a_is_name.fn sc_is_name rfl rfl fun cdv A outer s H E hr => ?_
  have nd := sc_is_name.nd
  exact ⟨_, (xsconsT (dmT_cons (xsif (dm_if (xplT (Dw.pt (xwor (dw_or (xtnot (dt_not (xtb (dt_val (xisi (de_isi (a := "str") T.isinstance (xv (dv 0)) T.str)))))) (dw_or1 (xtbin (ox_eq (neg := false)) (dt_cmp (do_alt do_eq (do_eqD hr.units)) (xv (dv 0)) (xc (.str "") de_str))))))))
 (dm_one (xsret (dm_lift (ds_ret (xpl (xc (.bl false) de_bl))))))
 (xsnil dm_nil)))
 (xsT1 (xsret (dm_lift (ds_ret (xpl (xcall cx_all (de_callB (dc_all rfl) T.all (xcons (da_cons (xlc gx_name tok_yes (de_lc (own := [("letter", 1)]) rfl nd (xitV (di_var 0 (dv 0))) (blkOk_by (N := ["thing", "letter"]) (sc := defScope s_is_name) (by decide +kernel)) (fun _ _ _ _ _ => dg_name (i := 1) nd) (fun _ _ _ _ _ => dts_nil) (fun _ _ _ _ _ => (xchain ox_leS ox_leS (de_chain do_leS do_leS (xc (.str "a") de_str) (xv (dv 1)) (xc (.str "z") de_str)))))) (xnil da_nil)))))))))))), rfl⟩
theorem sc_is_step : FnScope ["kind", "what"] ["kind", "what"] (defScope s_is_step) := ⟨rfl, rfl, rfl, by decide +kernel, rfl, by decide +kernel, by decide +kernel⟩
def b_is_step : XS := (xsSeq (xsIf (pl (xB (xBin (gEq false) (xVar 0) (xC (.str "cap")))))
 (xsRet (pl (xAndV (xCall x_is_number (xCons (xVar 1) xNil)) (xBin gGe (xVar 1) (xC (.int 1))))))
 xsNext)
 (xsRet (pl (xAndV (xBin (gIn false) (xVar 0) (xTup (xCons (xC (.str "touch")) (xCons (xC (.str "forget")) xNil)))) (xCall x_is_name (xCons (xVar 1) xNil))))))
def x_is_step : GA := xFn 2 2 b_is_step
theorem ok_is_step (T : Blt mg) (L : Lib Cl.K mg) : FnOk P w Cl.K mg base CX0 2 L.f_is_step L.fd_is_step ["kind", "what"] (spD (spX x_is_step)) := by
  refine fnX (k := 1) (body := b_is_step) L.a_is_step.fn sc_is_step rfl rfl fun cdv A outer s H E hr => ?_
  have nd := sc_is_step.nd
  exact ⟨_, (xsconsT (dmT_cons (xsif (dm_if (xplT (xtbin (ox_eq (neg := false)) (dt_cmp (do_alt do_eq (do_eqD hr.units)) (xv (dv 0)) (xc (.str "cap") de_str))))
 (dm_one (xsret (dm_lift (ds_ret (xpl (xandv (de_and (xcall spX_call (de_call (ok_is_number T L) (hr.mono (by decide)) L.a_is_number.mg L.a_is_number.fn.kp L.a_is_number.bd (xcons (da_cons (xv (dv 1)) (xnil da_nil))))) (de_one (xbin ox_ge (de_cmp do_ge (xv (dv 1)) (xc (.int 1) de_int)))))))))))
 (xsnil dm_nil)))
 (xsT1 (xsret (dm_lift (ds_ret (xpl (xandv (de_and (xbin (ox_in (neg := false)) (de_cmp do_in (xv (dv 0)) (xtup (de_tup (xcons (da_cons (xc (.str "touch") de_str) (xcons (da_cons (xc (.str "forget") de_str) (xnil da_nil))))))))) (de_one (xcall spX_call (de_call (ok_is_name T L) (hr.mono (by decide)) L.a_is_name.mg L.a_is_name.fn.kp L.a_is_name.bd (xcons (da_cons (xv (dv 1)) (xnil da_nil))))))))))))))), rfl⟩
theorem sc_Step__d____init__ : FnScope ["self", "kind", "what"] ["self", "kind", "what"] (defScope s_Step__d____init__) := ⟨rfl, rfl, rfl, by decide +kernel, rfl, by decide +kernel, by decide +kernel⟩
def x_Step__d____init__ : GI := fun ps => match ps with
  | [k, d] => (x_is_step [k, d]).bind fun r => (asB r).bind fun b => .ok b (.ret [k, d])
  | _ => .fail
theorem inX_Step__d____init__ : InX (inX x_Step__d____init__) x_Step__d____init__ := inX_in
theorem kw_ne : ¬ (("_kind" : Str) = "_what") := by decide +kernel
theorem ok_Step__d____init__ (T : Blt mg) (L : Lib Cl.K mg) : FnOk P w Cl.K mg base CX0 3 L.f_Step__d____init__ L.fd_Step__d____init__ ["self", "kind", "what"] (spInit 0 (inX x_Step__d____init__)) := by
  refine L.a_Step__d____init__.fn.ok sc_Step__d____init__ (fun vs H Q E h => ?_) (fun cdv A outer s H vs Q E hr h => ?_)
  · obtain ⟨wd, Hb, a, dx, ds, us, m, Q', _, rfl, _, _, _, _, _, hds, _, ⟨ps, rfl, h⟩, _⟩ := h
    have := hds.len
    rw [PDs_len] at this
    unfold x_Step__d____init__ at h
    split at h
    · show us.length + 1 = 3
      rw [this]; rfl
    · exact h.elim
  · obtain ⟨wd, Hb, a, dx, ds, us, m, Q', ⟨hb, hbH⟩, rfl, ha, hdx, ne, na, ndx, hds, hu, ⟨ps, rfl, h⟩, c⟩ := h
    have nd := sc_Step__d____init__.nd
    unfold x_Step__d____init__ at h
    split at h
    · next k d =>
      refine ⟨_, pss_cons (ps_if pt_self pss_self pss_nil) (pss_cons (ps_fld (pv 0) (pv 1) rfl) (pss_one (ps_fld (pv 0) (pv 2) rfl))), ?_⟩
      rw [PDs, PDs, PDs] at hds
      obtain ⟨v1, r1, rfl, k1, k2⟩ := hds.uncons
      obtain ⟨v2, r2, rfl, k3, k4⟩ := k2.uncons
      cases k4.unnil
      have fb : Fr wd Hb H := fun b o _ e => hbH b o e
      have sl : Sls wd H [some (.ref a), some v1, some v2] [none, some k.D, some d.D] := ⟨rfl, fun i d' e => by
        match i, e with
        | 0, e => cases e
        | 1, e => cases e; exact ⟨_, rfl, k1.fr fb⟩
        | 2, e => cases e; exact ⟨_, rfl, k3.fr fb⟩
        | n + 3, e => simp at e⟩
      refine (dt_not (dt_val (de_call (ok_is_step T L) (hr.mono (by decide)) L.a_is_step.mg L.a_is_step.fn.kp L.a_is_step.bd (da_cons (dv 1) (da_cons (dv 2) da_nil))))).run wd _ H _ m (fun b mm => b = false ∧ Q' [k.D, d.D] mm) _ sl hu ?_ ?_
      · refine ⟨_, rfl, _, rfl, [k, d], by rw [PDs, PDs, PDs], (Tr.wp_bind.mp h).mono fun r m1 h => ?_⟩
        obtain ⟨b, e, h⟩ := asB_wp (Tr.wp_bind.mp h)
        obtain ⟨hb1, h⟩ := Tr.wp_ok h
        subst hb1
        have h2 : Q' (PDs [k, d]) m1 := h
        rw [PDs, PDs, PDs] at h2
        exact ⟨true, e, rfl, h2⟩
      · rintro b m1 H1 f1 u1 ⟨rfl, q⟩
        refine iteF ?_
        have na' : wd.u ≠ some a := fun z => na (.inl z)
        have nx' : wd.u ≠ some dx := fun z => ndx (.inl z)
        have ha1 : H1 a = some (.ins (Cl.c 0).1 dx []) := f1 _ _ na' ha
        have hd1 : H1 dx = some (.own a) := f1 _ _ nx' hdx
        refine ⟨_, rfl, _, rfl, a, _, dx, [], rfl, ha1, L.cl_Step, L.n_Step__kind, (by show 0 < 1000; decide), ?_⟩
        refine ⟨_, rfl, _, rfl, a, _, dx, _, rfl, upd_same, L.cl_Step, L.n_Step__what, (by show 1 < 1000; decide), ?_⟩
        have e1 : putF "_what" v2 (putF "_kind" v1 []) = (Cl.c 0).2.zip [v1, v2] := by
          rw [L.fs_Step]
          show (if ("_kind" : Str) = "_what" then _ else (("_kind" : Str), v1) :: putF "_what" v2 []) = _
          rw [if_neg kw_ne]
          rfl
        have w1 : ∀ (o o' : HO) (b : Addr) (x : HO), b ≠ a → wd.u ≠ some b → H b = some x → upd (upd H1 a o) a o' b = some x := fun o o' b x nb nu e => by rw [upd_ne nb, upd_ne nb]; exact f1 _ _ nu e
        have fin : ∀ o o', Fr wd Hb (upd (upd H1 a o) a o') := fun o o' b x nu e => w1 o o' b x (ne_of_none e hb) nu (hbH b x e)
        refine c [k.D, d.D] m1 _ [v1, v2] (fun b o nb nu e => w1 _ _ b o nb nu e) ?_ (by rw [upd_same, e1]) (.cons (k1.fr (fin _ _)) (.cons (k3.fr (fin _ _)) .nil)) q
        exact (u1.inst na).inst na
    · exact h.elim
theorem sc_Step__d__of : FnScope ["text", "kind", "_", "rest", "what"] ["text"] (defScope s_Step__d__of) := ⟨rfl, rfl, rfl, by decide +kernel, rfl, by decide +kernel, by decide +kernel⟩
def b_Step__d__of : XS := (xsSeq (xsAsg (pl (xPart (xVar 0) (xC (.str " ")))) (asgT XV.p [1, 2, 3]))
 (xsSeq (xsSet 4 (pl (xIf (xB (xCall x_is_numeral (xCons (xVar 3) xNil))) (xCall gInt (xCons (xVar 3) xNil)) (xVar 3))))
 (xsSeq (xsIf (pl (xNot (xB (xCall x_is_step (xCons (xVar 1) (xCons (xVar 4) xNil))))))
 xsFail
 xsNext)
 (xsRet (pl (xMake 0 x_Step__d____init__ (xCons (xVar 1) (xCons (xVar 4) xNil))))))))
def x_Step__d__of : GA := xFn 5 1 b_Step__d__of
theorem ok_Step__d__of (T : Blt mg) (L : Lib Cl.K mg) : FnOk P w Cl.K mg base CX0 5 L.f_Step__d__of L.fd_Step__d__of ["text"] (spD (spX x_Step__d__of)) := by
  refine fnX (k := 4) (body := b_Step__d__of) L.a_Step__d__of.fn sc_Step__d__of rfl rfl fun cdv A outer s H E hr => ?_
  have nd := sc_Step__d__of.nd
  exact ⟨_, (xsconsT (dmT_cons (xsasg gm_tup3 (dm_lift (ds_asg (xpl (xpart (de_partition (xv (dv 0)) (xc (.str " ") de_str)))) (dg_tup3 (i := 1) (j := 2) (k := 3) rfl nd))))
 (xsconsT (dmT_cons (xsset (dm_lift (ds_set (i := 4) nd (xpl (xif (de_if (xtb (dt_val (xcall spX_call (de_call (ok_is_numeral T L) (hr.mono (by decide)) L.a_is_numeral.mg L.a_is_numeral.fn.kp L.a_is_numeral.bd (xcons (da_cons (xv (dv 3)) (xnil da_nil))))))) (xcall cx_int (de_callTy dc_intA T.int (xcons (da_cons (xv (dv 3)) (xnil da_nil))))) (xv (dv 3))))))))
 (xsconsT (dmT_cons (xsif (dm_if (xplT (xtnot (dt_not (xtb (dt_val (xcall spX_call (de_call (ok_is_step T L) (hr.mono (by decide)) L.a_is_step.mg L.a_is_step.fn.kp L.a_is_step.bd (xcons (da_cons (xv (dv 1)) (xcons (da_cons (xv (dv 4)) (xnil da_nil))))))))))))
 (dm_one (xsnever (dm_lift ds_never)))
 (xsnil dm_nil)))
 (xsT1 (xsret (dm_lift (ds_ret (xpl (xmake (inX_Step__d____init__) (de_make 0 L.mk_Step (ok_Step__d____init__ T L) (hr.mono (by decide)) L.mg_Step L.a_Step__d____init__.bd (xcons (da_cons (xv (dv 1)) (xcons (da_cons (xv (dv 4)) (xnil da_nil)))))))))))))))))), rfl⟩
end
end TC
namespace TC
open PySem PySem.Spec PyProof.Rows L2 RZ
variable [Cl]
section
variable {P : Program} {w : World} {K : PySem.W.Frag} {mg : Str → Option Value} {base : Heap}
theorem sc_Rule__d__of : FnScope ["text", "part"] ["text"] (defScope s_Rule__d__of) := ⟨rfl, rfl, rfl, by decide +kernel, rfl, by decide +kernel, by decide +kernel⟩
def b_Rule__d__of : XS := (xsSeq (xsIf (pl (xB (xBin (gEq false) (xVar 0) (xC (.str "-")))))
 (xsRet (pl (xMake 1 x_Rule__d____init__ (fun _ => .ret [.tup []]))))
 xsNext)
 (xsRet (pl (xMake 1 x_Rule__d____init__ (xCons (xLc (xItL (xSplit (xVar 0) (xC (.str "; ")))) (asgN (fun p => p) 1) xYes (xCall x_Step__d__of (xCons (xVar 1) xNil)) [1]) xNil)))))
def x_Rule__d__of : GA := xFn 2 1 b_Rule__d__of
theorem ok_Rule__d__of (T : Blt mg) (L : Lib Cl.K mg) : FnOk P w Cl.K mg base CX0 6 L.f_Rule__d__of L.fd_Rule__d__of ["text"] (spD (spX x_Rule__d__of)) := by
  refine fnX (k := 5) (body := b_Rule__d__of) L.a_Rule__d__of.fn sc_Rule__d__of rfl rfl fun cdv A outer s H E hr => ?_
  have nd := sc_Rule__d__of.nd
  exact ⟨_, (xsconsT (dmT_cons (xsif (dm_if (xplT (xtbin (ox_eq (neg := false)) (dt_cmp (do_alt do_eq (do_eqD hr.units)) (xv (dv 0)) (xc (.str "-") de_str))))
 (dm_one (xsret (dm_lift (ds_ret (xpl (xmake0 (inX_Rule__d____init__) (de_make0 1 L.mk_Rule (ok_Rule__d____init__ T L) (hr.mono (by decide)) L.mg_Rule L.b0_Rule__d____init__.choose_spec.2 L.b0_Rule__d____init__.choose_spec.1 L.e0)))))))
 (xsnil dm_nil)))
 (xsT1 (xsret (dm_lift (ds_ret (xpl (xmake (inX_Rule__d____init__) (de_make 1 L.mk_Rule (ok_Rule__d____init__ T L) (hr.mono (by decide)) L.mg_Rule L.a_Rule__d____init__.bd (xcons (da_cons (xlc gx_name tok_yes (de_lc (own := [("part", 1)]) rfl nd (xitL (di_lst (xsplit (de_split (xv (dv 0)) (xc (.str "; ") de_str))) (pi_list pe_self))) (blkOk_by (N := ["text", "part"]) (sc := defScope s_Rule__d__of) (by decide +kernel)) (fun _ _ _ _ _ => dg_name (i := 1) nd) (fun _ _ _ _ _ => dts_nil) (fun _ _ _ _ _ => (xcall spX_call (de_smeth L.rd_Step L.sm_Step__d__of (ok_Step__d__of T L) (hr.mono (by decide)) L.mg_Step L.a_Step__d__of.bd (xcons (da_cons (xv (dv 1)) (xnil da_nil)))))))) (xnil da_nil)))))))))))), rfl⟩
theorem sc__law_same : FnScope ["_law_got", "_law_goal", "_law_mine_so", "_law_own"] ["_law_got", "_law_goal"] (defScope s__law_same) := ⟨rfl, rfl, rfl, by decide +kernel, rfl, by decide +kernel, by decide +kernel⟩
def b__law_same (x_self : GA) : XS := (xsSeq (xsIf (pl (xB (xMap (gIsi2 "list" "tuple") (xVar 1))))
 (xsSeq (xsIf (pl (xOr (xB (xBin (gEq true) (xMap (gIsi "list") (xVar 0)) (xMap (gIsi "list") (xVar 1)))) (xB (xBin (gEq true) (xMap (gIsi "tuple") (xVar 0)) (xMap (gIsi "tuple") (xVar 1))))))
 (xsRet (pl (xC (.bl false))))
 xsNext)
 (xsRet (pl (xAndV (xBin (gEq false) (xCall gLen (xCons (xVar 0) xNil)) (xCall gLen (xCons (xVar 1) xNil))) (xCall gAll (xCons (xLc (xItZ (xVar 0) (xVar 1)) (asgT (fun p => p) [2, 3]) xYes (xCall x_self (xCons (xVar 2) (xCons (xVar 3) xNil))) [2, 3]) xNil))))))
 xsNext)
 (xsSeq (xsIf (pl (xB (xIsN false (xVar 1))))
 (xsRet (pl (xIsN false (xVar 0))))
 xsNext)
 (xsSeq (xsIf (pl (xB (xMap (gIsi2 "bool" "str") (xVar 1))))
 (xsRet (pl (xAndV (xBin (gEq false) (xVar 0) (xVar 1)) (xBin (gEq false) (xMap (gIsi "bool") (xVar 0)) (xMap (gIsi "bool") (xVar 1))))))
 xsNext)
 (xsRet (pl (xAndV (xMap (gIsi "int") (xVar 0)) (xAndV (xNotV (xMap (gIsi "bool") (xVar 0))) (xBin (gEq false) (xVar 0) (xVar 1)))))))))
def x__law_same : Nat → GA
  | 0 => fun _ => .fail
  | n + 1 => xFn 4 2 (b__law_same (x__law_same n))
theorem ok__law_same (T : Blt mg) (L : Lib Cl.K mg) : ∀ n, FnOk P w Cl.K mg base CX0 (n + 1) L.f__law_same L.fd__law_same ["_law_got", "_law_goal"] (spD (spX (x__law_same n)))
  | 0 => (fnX0 (k := 0) L.a__law_same.fn sc__law_same).mono (by omega)
  | n + 1 => by
    have ih := ok__law_same T L n
    refine fnX (k := n + 1) (body := b__law_same (x__law_same n)) L.a__law_same.fn sc__law_same rfl rfl fun cdv A outer s H E hr => ?_
    have nd := sc__law_same.nd
    exact ⟨_, (xsconsT (dmT_cons (xsif (dm_if (xplT (xtb (dt_val (xisi2 (de_isi2 (a := "list") (b := "tuple") T.isinstance (xv (dv 1)) T.list T.tuple)))))
 (xscons (dm_cons (xsif (dm_if (xplT (Dw.pt (xwor (dw_or (xtbin (ox_eq (neg := true)) (dt_cmp (do_alt do_ne (do_neD hr.units)) (xisi (de_isi (a := "list") T.isinstance (xv (dv 0)) T.list)) (xisi (de_isi (a := "list") T.isinstance (xv (dv 1)) T.list)))) (dw_or1 (xtbin (ox_eq (neg := true)) (dt_cmp (do_alt do_ne (do_neD hr.units)) (xisi (de_isi (a := "tuple") T.isinstance (xv (dv 0)) T.tuple)) (xisi (de_isi (a := "tuple") T.isinstance (xv (dv 1)) T.tuple)))))))))
 (dm_one (xsret (dm_lift (ds_ret (xpl (xc (.bl false) de_bl))))))
 (xsnil dm_nil)))
 (dm_one (xsret (dm_lift (ds_ret (xpl (xandv (de_and (xbin (ox_eq (neg := false)) (de_cmp (do_alt do_eq (do_eqD hr.units)) (xcall cx_len (de_callB dc_lenA T.len (xcons (da_cons (xv (dv 0)) (xnil da_nil))))) (xcall cx_len (de_callB dc_lenA T.len (xcons (da_cons (xv (dv 1)) (xnil da_nil))))))) (de_one (xcall cx_all (de_callB (dc_all rfl) T.all (xcons (da_cons (xlc gx_tup2 tok_yes (de_lc (own := [("_law_mine_so", 2), ("_law_own", 3)]) rfl nd (xitZ (di_zip T.zip (xv (dv 0)) (xv (dv 1)))) (blkOk_by (N := ["_law_got", "_law_goal", "_law_mine_so", "_law_own"]) (sc := defScope s__law_same) (by decide +kernel)) (fun _ _ _ _ _ => dg_tup2 (i := 2) (j := 3) rfl nd) (fun _ _ _ _ _ => dts_nil) (fun _ _ _ _ _ => (xcall spX_call (de_call ih (hr.mono (by omega)) L.a__law_same.mg L.a__law_same.fn.kp L.a__law_same.bd (xcons (da_cons (xv (dv 2)) (xcons (da_cons (xv (dv 3)) (xnil da_nil)))))))))) (xnil da_nil)))))))))))))))
 (xsnil dm_nil)))
 (xsconsT (dmT_cons (xsif (dm_if (xplT (xtis (dt_isN (xv (dv 1)))))
 (dm_one (xsret (dm_lift (ds_ret (xpl (xisN (de_isN (xv (dv 0)))))))))
 (xsnil dm_nil)))
 (xsconsT (dmT_cons (xsif (dm_if (xplT (xtb (dt_val (xisi2 (de_isi2 (a := "bool") (b := "str") T.isinstance (xv (dv 1)) T.bool T.str)))))
 (dm_one (xsret (dm_lift (ds_ret (xpl (xandv (de_and (xbin (ox_eq (neg := false)) (de_cmp (do_alt do_eq (do_eqD hr.units)) (xv (dv 0)) (xv (dv 1)))) (de_one (xbin (ox_eq (neg := false)) (de_cmp (do_alt do_eq (do_eqD hr.units)) (xisi (de_isi (a := "bool") T.isinstance (xv (dv 0)) T.bool)) (xisi (de_isi (a := "bool") T.isinstance (xv (dv 1)) T.bool))))))))))))
 (xsnil dm_nil)))
 (xsT1 (xsret (dm_lift (ds_ret (xpl (xandv (de_and (xisi (de_isi (a := "int") T.isinstance (xv (dv 0)) T.int)) (xandv (de_and (xnotv (de_not (xisi (de_isi (a := "bool") T.isinstance (xv (dv 0)) T.bool)))) (de_one (xbin (ox_eq (neg := false)) (de_cmp (do_alt do_eq (do_eqD hr.units)) (xv (dv 0)) (xv (dv 1)))))))))))))))))))), rfl⟩
theorem sc__law_by_hand_right : FnScope ["_law_some", "_law_got", "_law_far", "_law_due", "_law_tags_here", "_law_steps_so", "_law_own", "_law_k"] [] (defScope s__law_by_hand_right) := ⟨rfl, rfl, rfl, by decide +kernel, rfl, by decide +kernel, by decide +kernel⟩
def b__law_by_hand_right : XS := (xsSeq (xsSet 0 (pl (xLst (xCons (xTup (xCons (xC (.str "touch a; cap 3")) (xCons (xC (.int 3)) xNil))) (xCons (xTup (xCons (xC (.str "cap 3; touch a")) (xCons (xC (.int 4)) xNil))) (xCons (xTup (xCons (xC (.str "cap 1; touch a")) (xCons (xC (.int 0)) xNil))) (xCons (xTup (xCons (xC (.str "touch a")) (xCons (xC .non) xNil))) (xCons (xTup (xCons (xC (.str "-")) (xCons (xC .non) xNil))) (xCons (xTup (xCons (xC (.str "cap 1")) (xCons (xC (.int 0)) xNil))) xNil)))))))))
 (xsSeq (xsSet 0 (pl (xBin gAdd (xVar 0) (xLst (xCons (xTup (xCons (xC (.str "cap 5")) (xCons (xC (.int 4)) xNil))) (xCons (xTup (xCons (xC (.str "touch a; cap 1")) (xCons (xC .non) xNil))) (xCons (xTup (xCons (xC (.str "touch a; cap 3; touch b; touch a")) (xCons (xC (.int 4)) xNil))) (xCons (xTup (xCons (xC (.str "cap 3; touch b; touch a")) (xCons (xC (.int 6)) xNil))) xNil))))))))
 (xsSeq (xsSet 0 (pl (xBin gAdd (xVar 0) (xLst (xCons (xTup (xCons (xC (.str "cap 3; forget a; forget b; cap 2; touch b; touch a")) (xCons (xC (.int 5)) xNil))) (xCons (xTup (xCons (xC (.str "forget b; forget a; cap 2")) (xCons (xC (.int 6)) xNil))) xNil))))))
 (xsNewAdd 0 (pl (xVar 0)) (pl (xLst (xCons (xTup (xCons (xC (.str "cap 9; touch a; touch b; touch c; cap 4; forget d; cap 5")) (xCons (xC (.int 6)) xNil))) (xCons (xTup (xCons (xC (.str "touch a; forget a; cap 2; forget b; cap 2")) (xCons (xC (.int 4)) xNil))) xNil))))
 (xsSeq (xsApp 0 (pl (xTup (xCons (xC (.str "touch a; cap 1; forget a")) (xCons (xC .non) xNil)))))
 (xsRel (xsSeq (xsPar [1, 2] (xConsX (pl (xLc (xItV 0) (asgN (fun p => p) 6) xYes (xCall x_height (xCons (xCall x_Rule__d__of (xCons (xBin gIx (xVar 6) (xC (.int 0))) xNil)) xNil)) [6])) (xConsX (pl (xBin gPow (xC (.int 10)) (xC (.int 40)))) xNilX)))
 (xsSeq (xsSet 3 (pl (xLc (xItV 0) (asgN (fun p => p) 6) xYes (xBin gIx (xVar 6) (xC (.int 1))) [6])))
 (xsSeq (xsSet 1 (pl (xBin gAdd (xVar 1) (xLst (xCons (xCall x_height (xCons (xMake 1 x_Rule__d____init__ (xCons (xLst (xCons (xMake 0 x_Step__d____init__ (xCons (xC (.str "cap")) (xCons (xVar 2) xNil))) xNil)) xNil)) xNil)) (xCons (xCallK 1 (rp [0]) x_height (xCons (xMake 1 x_Rule__d____init__ (xCons (xLst (xCons (xMake 0 x_Step__d____init__ (xCons (xC (.str "touch")) (xCons (xC (.str "a")) xNil))) (xCons (xMake 0 x_Step__d____init__ (xCons (xC (.str "cap")) (xCons (xVar 2) xNil))) xNil))) xNil)) xNil)) xNil))))))
 (xsSeq (xsSet 3 (pl (xBin gAdd (xVar 3) (xLst (xCons (xBin gSub (xVar 2) (xC (.int 1))) (xCons (xBin gSub (xBin gMul (xC (.int 2)) (xVar 2)) (xC (.int 3))) xNil))))))
 (xsSeq (xsSet 4 (pl (xLc (xItR (xC (.int 59))) (asgN (fun p => p) 7) xYes (xBin gAdd (xBin gIx (xC (.str "abcdef")) (xBin gFdiv (xVar 7) (xC (.int 10)))) (xBin gIx (xC (.str "abcdefghij")) (xBin gMod (xCall gInt (xCons (xVar 7) xNil)) (xC (.int 10))))) [7])))
 (xsSeq (xsSet 5 (pl (xLc (xItV 4) (asgN (fun p => p) 6) xYes (xMake 0 x_Step__d____init__ (xCons (xC (.str "forget")) (xCons (xVar 6) xNil))) [6])))
 (xsSeq (xsSet 1 (pl (xBin gAdd (xVar 1) (xLst (xCons (xCall x_height (xCons (xMake 1 x_Rule__d____init__ (xCons (xBin gAdd (xVar 5) (xLst (xCons (xMake 0 x_Step__d____init__ (xCons (xC (.str "cap")) (xCons (xC (.int 7)) xNil))) xNil))) xNil)) xNil)) (xCons (xCall x_height (xCons (xMake 1 x_Rule__d____init__ (xCons (xBin gAdd (xLst (xCons (xMake 0 x_Step__d____init__ (xCons (xC (.str "cap")) (xCons (xC (.int 7)) xNil))) xNil)) (xVar 5)) xNil)) xNil)) xNil))))))
 (xsRet (pl (xCall (x__law_same 3) (xCons (xVar 1) (xCons (xBin gAdd (xVar 3) (xLst (xCons (xBin gAdd (xC (.int 360)) (xC (.int 1770))) (xCons (xC (.int 360)) xNil)))) xNil))))))))))))))))))
def x__law_by_hand_right : GA := xFn 8 0 b__law_by_hand_right
theorem ok__law_by_hand_right (T : Blt mg) (L : Lib Cl.K mg) : FnOk P w Cl.K mg base CX0 9 L.f__law_by_hand_right L.fd__law_by_hand_right [] (spD (spX x__law_by_hand_right)) := by
  refine fnX (k := 8) (body := b__law_by_hand_right) L.a__law_by_hand_right.fn sc__law_by_hand_right rfl rfl fun cdv A outer s H E hr => ?_
  have nd := sc__law_by_hand_right.nd
  exact ⟨_, (xsconsT (dmT_cons (xsset (dm_lift (ds_set (i := 0) nd (xpl (xlst (de_lst (xcons (da_cons (xtup (de_tup (xcons (da_cons (xc (.str "touch a; cap 3") de_str) (xcons (da_cons (xc (.int 3) de_int) (xnil da_nil))))))) (xcons (da_cons (xtup (de_tup (xcons (da_cons (xc (.str "cap 3; touch a") de_str) (xcons (da_cons (xc (.int 4) de_int) (xnil da_nil))))))) (xcons (da_cons (xtup (de_tup (xcons (da_cons (xc (.str "cap 1; touch a") de_str) (xcons (da_cons (xc (.int 0) de_int) (xnil da_nil))))))) (xcons (da_cons (xtup (de_tup (xcons (da_cons (xc (.str "touch a") de_str) (xcons (da_cons (xc .non de_non) (xnil da_nil))))))) (xcons (da_cons (xtup (de_tup (xcons (da_cons (xc (.str "-") de_str) (xcons (da_cons (xc .non de_non) (xnil da_nil))))))) (xcons (da_cons (xtup (de_tup (xcons (da_cons (xc (.str "cap 1") de_str) (xcons (da_cons (xc (.int 0) de_int) (xnil da_nil))))))) (xnil da_nil)))))))))))))))))))
 (xsconsT (dmT_cons (xsset (dm_lift (ds_set (i := 0) nd (xpl (xbin ox_add (de_op do_add (xv (dv 0)) (xlst (de_lst (xcons (da_cons (xtup (de_tup (xcons (da_cons (xc (.str "cap 5") de_str) (xcons (da_cons (xc (.int 4) de_int) (xnil da_nil))))))) (xcons (da_cons (xtup (de_tup (xcons (da_cons (xc (.str "touch a; cap 1") de_str) (xcons (da_cons (xc .non de_non) (xnil da_nil))))))) (xcons (da_cons (xtup (de_tup (xcons (da_cons (xc (.str "touch a; cap 3; touch b; touch a") de_str) (xcons (da_cons (xc (.int 4) de_int) (xnil da_nil))))))) (xcons (da_cons (xtup (de_tup (xcons (da_cons (xc (.str "cap 3; touch b; touch a") de_str) (xcons (da_cons (xc (.int 6) de_int) (xnil da_nil))))))) (xnil da_nil)))))))))))))))))
 (xsconsT (dmT_cons (xsset (dm_lift (ds_set (i := 0) nd (xpl (xbin ox_add (de_op do_add (xv (dv 0)) (xlst (de_lst (xcons (da_cons (xtup (de_tup (xcons (da_cons (xc (.str "cap 3; forget a; forget b; cap 2; touch b; touch a") de_str) (xcons (da_cons (xc (.int 5) de_int) (xnil da_nil))))))) (xcons (da_cons (xtup (de_tup (xcons (da_cons (xc (.str "forget b; forget a; cap 2") de_str) (xcons (da_cons (xc (.int 6) de_int) (xnil da_nil))))))) (xnil da_nil)))))))))))))
 (xsnewadd (dmT_newAdd (i := 0) nd (xpl (xv (dv 0))) (xpl (xlst (de_lst (xcons (da_cons (xtup (de_tup (xcons (da_cons (xc (.str "cap 9; touch a; touch b; touch c; cap 4; forget d; cap 5") de_str) (xcons (da_cons (xc (.int 6) de_int) (xnil da_nil))))))) (xcons (da_cons (xtup (de_tup (xcons (da_cons (xc (.str "touch a; forget a; cap 2; forget b; cap 2") de_str) (xcons (da_cons (xc (.int 4) de_int) (xnil da_nil))))))) (xnil da_nil))))))))
 (xsconsT (dmT_cons (xsapp (dm_app (i := 0) (dv 0) (xpl (xtup (de_tup (xcons (da_cons (xc (.str "touch a; cap 1; forget a") de_str) (xcons (da_cons (xc .non de_non) (xnil da_nil))))))))))
 (xsrel (dmT_rel (xsconsT (dmT_cons (xspar2 (dm_lift (ds_par (i := 1) (j := 2) rfl nd (xconsX (da_cons (xpl (xlc gx_name tok_yes (de_lc (own := [("_law_own", 6)]) rfl nd (xitV (di_var 0 (dv 0))) (blkOk_by (N := ["_law_some", "_law_got", "_law_far", "_law_due", "_law_tags_here", "_law_steps_so", "_law_own", "_law_k"]) (sc := defScope s__law_by_hand_right) (by decide +kernel)) (fun _ _ _ _ _ => dg_name (i := 6) nd) (fun _ _ _ _ _ => dts_nil) (fun _ _ _ _ _ => (xcall spX_call (de_call (ok_height T L) (hr.mono (by decide)) L.a_height.mg L.a_height.fn.kp L.a_height.bd (xcons (da_cons (xcall spX_call (de_smeth L.rd_Rule L.sm_Rule__d__of (ok_Rule__d__of T L) (hr.mono (by decide)) L.mg_Rule L.a_Rule__d__of.bd (xcons (da_cons (xix (de_ix (xv (dv 6)) (xc (.int 0) de_int))) (xnil da_nil))))) (xnil da_nil))))))))) (xconsX (da_cons (xpl (xbin ox_pow (de_op do_pow (xc (.int 10) de_int) (xc (.int 40) de_int)))) (xnilX da_nil))))))))
 (xsconsT (dmT_cons (xssetlc gx_name tok_yes (dm_lift (ds_setLc (i := 3) (own := [("_law_own", 6)]) rfl nd (xitV (di_var 0 (dv 0))) (blkOk_by (N := ["_law_some", "_law_got", "_law_far", "_law_due", "_law_tags_here", "_law_steps_so", "_law_own", "_law_k"]) (sc := defScope s__law_by_hand_right) (by decide +kernel)) (fun _ _ _ _ _ => dg_name (i := 6) nd) (fun _ _ _ _ _ => dts_nil) (fun _ _ _ _ _ => (xix (de_ix (xv (dv 6)) (xc (.int 1) de_int)))))))
 (xsconsT (dmT_cons (xsset (dm_lift (ds_set (i := 1) nd (xpl (xbin ox_add (de_op do_add (xv (dv 1)) (xlst (de_lst (xcons (da_cons (xcall spX_call (de_call (ok_height T L) (hr.mono (by decide)) L.a_height.mg L.a_height.fn.kp L.a_height.bd (xcons (da_cons (xmake (inX_Rule__d____init__) (de_make 1 L.mk_Rule (ok_Rule__d____init__ T L) (hr.mono (by decide)) L.mg_Rule L.a_Rule__d____init__.bd (xcons (da_cons (xlst (de_lst (xcons (da_cons (xmake (inX_Step__d____init__) (de_make 0 L.mk_Step (ok_Step__d____init__ T L) (hr.mono (by decide)) L.mg_Step L.a_Step__d____init__.bd (xcons (da_cons (xc (.str "cap") de_str) (xcons (da_cons (xv (dv 2)) (xnil da_nil))))))) (xnil da_nil))))) (xnil da_nil))))) (xnil da_nil))))) (xcons (da_cons (xcallK (rp_D 1 [0]) spX_call (de_callK0 (ok_height T L) (hr.mono (by decide)) L.a_height.mg L.a_height.fn.kp (kb_height_p L.a_height.fn) (hg_rp 1 [0]) (xkcons (dk_cons (xmake (inX_Rule__d____init__) (de_make 1 L.mk_Rule (ok_Rule__d____init__ T L) (hr.mono (by decide)) L.mg_Rule L.a_Rule__d____init__.bd (xcons (da_cons (xlst (de_lst (xcons (da_cons (xmake (inX_Step__d____init__) (de_make 0 L.mk_Step (ok_Step__d____init__ T L) (hr.mono (by decide)) L.mg_Step L.a_Step__d____init__.bd (xcons (da_cons (xc (.str "touch") de_str) (xcons (da_cons (xc (.str "a") de_str) (xnil da_nil))))))) (xcons (da_cons (xmake (inX_Step__d____init__) (de_make 0 L.mk_Step (ok_Step__d____init__ T L) (hr.mono (by decide)) L.mg_Step L.a_Step__d____init__.bd (xcons (da_cons (xc (.str "cap") de_str) (xcons (da_cons (xv (dv 2)) (xnil da_nil))))))) (xnil da_nil))))))) (xnil da_nil))))) (xknil dk_nil))))) (xnil da_nil)))))))))))))
 (xsconsT (dmT_cons (xsset (dm_lift (ds_set (i := 3) nd (xpl (xbin ox_add (de_op do_add (xv (dv 3)) (xlst (de_lst (xcons (da_cons (xbin ox_sub (de_op do_sub (xv (dv 2)) (xc (.int 1) de_int))) (xcons (da_cons (xbin ox_sub (de_op do_sub (xbin ox_mul (de_op do_mulT (xc (.int 2) de_int) (xv (dv 2)))) (xc (.int 3) de_int))) (xnil da_nil)))))))))))))
 (xsconsT (dmT_cons (xssetlc gx_name tok_yes (dm_lift (ds_setLc (i := 4) (own := [("_law_k", 7)]) rfl nd (xitR (di_range T.range (xc (.int 59) de_int))) (blkOk_by (N := ["_law_some", "_law_got", "_law_far", "_law_due", "_law_tags_here", "_law_steps_so", "_law_own", "_law_k"]) (sc := defScope s__law_by_hand_right) (by decide +kernel)) (fun _ _ _ _ _ => dg_name (i := 7) nd) (fun _ _ _ _ _ => dts_nil) (fun _ _ _ _ _ => (xbin ox_add (de_op do_add (xix (de_ix (xc (.str "abcdef") de_str) (xbin ox_fdiv (de_op do_fdiv (xv (dv 7)) (xc (.int 10) de_int))))) (xix (de_ix (xc (.str "abcdefghij") de_str) (xbin ox_mod (de_op do_mod (xcall cx_int (de_callTy dc_intA T.int (xcons (da_cons (xv (dv 7)) (xnil da_nil))))) (xc (.int 10) de_int)))))))))))
 (xsconsT (dmT_cons (xssetlc gx_name tok_yes (dm_lift (ds_setLc (i := 5) (own := [("_law_own", 6)]) rfl nd (xitV (di_var 4 (dv 4))) (blkOk_by (N := ["_law_some", "_law_got", "_law_far", "_law_due", "_law_tags_here", "_law_steps_so", "_law_own", "_law_k"]) (sc := defScope s__law_by_hand_right) (by decide +kernel)) (fun _ _ _ _ _ => dg_name (i := 6) nd) (fun _ _ _ _ _ => dts_nil) (fun _ _ _ _ _ => (xmake (inX_Step__d____init__) (de_make 0 L.mk_Step (ok_Step__d____init__ T L) (hr.mono (by decide)) L.mg_Step L.a_Step__d____init__.bd (xcons (da_cons (xc (.str "forget") de_str) (xcons (da_cons (xv (dv 6)) (xnil da_nil)))))))))))
 (xsconsT (dmT_cons (xsset (dm_lift (ds_set (i := 1) nd (xpl (xbin ox_add (de_op do_add (xv (dv 1)) (xlst (de_lst (xcons (da_cons (xcall spX_call (de_call (ok_height T L) (hr.mono (by decide)) L.a_height.mg L.a_height.fn.kp L.a_height.bd (xcons (da_cons (xmake (inX_Rule__d____init__) (de_make 1 L.mk_Rule (ok_Rule__d____init__ T L) (hr.mono (by decide)) L.mg_Rule L.a_Rule__d____init__.bd (xcons (da_cons (xbin ox_add (de_op do_add (xv (dv 5)) (xlst (de_lst (xcons (da_cons (xmake (inX_Step__d____init__) (de_make 0 L.mk_Step (ok_Step__d____init__ T L) (hr.mono (by decide)) L.mg_Step L.a_Step__d____init__.bd (xcons (da_cons (xc (.str "cap") de_str) (xcons (da_cons (xc (.int 7) de_int) (xnil da_nil))))))) (xnil da_nil))))))) (xnil da_nil))))) (xnil da_nil))))) (xcons (da_cons (xcall spX_call (de_call (ok_height T L) (hr.mono (by decide)) L.a_height.mg L.a_height.fn.kp L.a_height.bd (xcons (da_cons (xmake (inX_Rule__d____init__) (de_make 1 L.mk_Rule (ok_Rule__d____init__ T L) (hr.mono (by decide)) L.mg_Rule L.a_Rule__d____init__.bd (xcons (da_cons (xbin ox_add (de_op do_add (xlst (de_lst (xcons (da_cons (xmake (inX_Step__d____init__) (de_make 0 L.mk_Step (ok_Step__d____init__ T L) (hr.mono (by decide)) L.mg_Step L.a_Step__d____init__.bd (xcons (da_cons (xc (.str "cap") de_str) (xcons (da_cons (xc (.int 7) de_int) (xnil da_nil))))))) (xnil da_nil))))) (xv (dv 5)))) (xnil da_nil))))) (xnil da_nil))))) (xnil da_nil)))))))))))))
 (xsT1 (xsret (dm_lift (ds_ret (xpl (xcall spX_call (de_call (ok__law_same T L 3) (hr.mono (by decide)) L.a__law_same.mg L.a__law_same.fn.kp L.a__law_same.bd (xcons (da_cons (xv (dv 1)) (xcons (da_cons (xbin ox_add (de_op do_add (xv (dv 3)) (xlst (de_lst (xcons (da_cons (xbin ox_add (de_op do_add (xc (.int 360) de_int) (xc (.int 1770) de_int))) (xcons (da_cons (xc (.int 360) de_int) (xnil da_nil))))))))) (xnil da_nil)))))))))))))))))))))))))))))))))))))), rfl⟩
theorem ok__law_take (T : Blt mg) (L : Lib Cl.K mg) : FnOk P w Cl.K mg base CX0 1 L.f__law_take L.fd__law_take ["_law_urn", "_law_low_so"] (spD (spX x__law_take)) := FnOk.spw (ok_take L.a__law_take.fn T) fun ds m Q ⟨ps, e, h⟩ => by subst e; exact cx_take _ _ _ h
theorem sc__law_of : FnScope ["_law_urn", "_law_some_so"] ["_law_urn", "_law_some_so"] (defScope s__law_of) := ⟨rfl, rfl, rfl, by decide +kernel, rfl, by decide +kernel, by decide +kernel⟩
def b__law_of : XS := (xsRet (pl (xBin gIx (xVar 1) (xCall x__law_take (xCons (xVar 0) (xCons (xCall gLen (xCons (xVar 1) xNil)) xNil))))))
def x__law_of : GA := xFn 2 2 b__law_of
theorem ok__law_of (T : Blt mg) (L : Lib Cl.K mg) : FnOk P w Cl.K mg base CX0 2 L.f__law_of L.fd__law_of ["_law_urn", "_law_some_so"] (spD (spX x__law_of)) := by
  refine fnX (k := 1) (body := b__law_of) L.a__law_of.fn sc__law_of rfl rfl fun cdv A outer s H E hr => ?_
  have nd := sc__law_of.nd
  exact ⟨_, (xsT1 (xsret (dm_lift (ds_ret (xpl (xix (de_ix (xv (dv 1)) (xcall spX_call (de_call (ok__law_take T L) (hr.mono (by decide)) L.a__law_take.mg L.a__law_take.fn.kp L.a__law_take.bd (xcons (da_cons (xv (dv 0)) (xcons (da_cons (xcall cx_len (de_callB dc_lenA T.len (xcons (da_cons (xv (dv 1)) (xnil da_nil))))) (xnil da_nil)))))))))))))), rfl⟩
theorem sc__law_mixed : FnScope ["_law_urn", "_law_pool", "_law_left", "_law_found", "_law_turn"] ["_law_urn", "_law_pool"] (defScope s__law_mixed) := ⟨rfl, rfl, rfl, by decide +kernel, rfl, by decide +kernel, by decide +kernel⟩
def l__law_mixed_0 : XS := (xsAppPop 3 2 (rl (xCall x__law_take (xCons (xVar 0) (xCons (xCall gLen (xCons (xVar 2) xNil)) xNil)))))
def b__law_mixed : XS := (xsPar2C 2 3 (pl (xVar 1))
 (xsSeq (xsFor (pl (xItR (xCall gLen (xCons (xVar 1) xNil)))) (asgN XV.p 4) l__law_mixed_0)
 (xsRel (xsRet (pl (xCall gTuple (xCons (xVar 3) xNil)))))))
def x__law_mixed : GA := xFn 5 2 b__law_mixed
theorem ok__law_mixed (T : Blt mg) (L : Lib Cl.K mg) : FnOk P w Cl.K mg base CX0 2 L.f__law_mixed L.fd__law_mixed ["_law_urn", "_law_pool"] (spD (spX x__law_mixed)) := by
  refine fnX (k := 1) (body := b__law_mixed) L.a__law_mixed.fn sc__law_mixed rfl rfl fun cdv A outer s H E hr => ?_
  have nd := sc__law_mixed.nd
  exact ⟨_, (xspar2c (dmT_par2c (i := 2) (j := 3) T.list rfl nd (xpl (xv (dv 1)))
 (xsconsT (dmT_cons (xsfor gm_name (dm_for PassesOwn.never rfl (xplI (xitR (di_range T.range (xcall cx_len (de_callB dc_lenA T.len (xcons (da_cons (xv (dv 1)) (xnil da_nil)))))))) (dg_name (i := 4) nd)
 (dm_one (xsapppop (dm_apppop (i := 3) (j := 2) (dv 3) (dv 2) (xrl (de_rel (xcall spX_call (de_call (ok__law_take T L) (hr.mono (by decide)) L.a__law_take.mg L.a__law_take.fn.kp L.a__law_take.bd (xcons (da_cons (xv (dv 0)) (xcons (da_cons (xcall cx_len (de_callB dc_lenA T.len (xcons (da_cons (xv (dv 2)) (xnil da_nil))))) (xnil da_nil))))))))))))))
 (xsrel (dmT_rel (xsT1 (xsret (dm_lift (ds_ret (xpl (xcall cx_tuple (de_callTy dc_tupleA T.tuple (xcons (da_cons (xv (dv 3)) (xnil da_nil)))))))))))))))), rfl⟩
theorem sc__law_tags : FnScope ["_law_urn", "_law_size_so"] ["_law_urn", "_law_size_so"] (defScope s__law_tags) := ⟨rfl, rfl, rfl, by decide +kernel, rfl, by decide +kernel, by decide +kernel⟩
def b__law_tags : XS := (xsRet (pl (xCall gTuple (xCons (xCall gSortT (xCons (xSl (xCall x__law_mixed (xCons (xVar 0) (xCons (xLst (xCons (xC (.str "a")) (xCons (xC (.str "ab")) (xCons (xC (.str "b")) (xCons (xC (.str "c")) (xCons (xC (.str "d")) (xCons (xC (.str "e")) (xCons (xC (.str "k")) (xCons (xC (.str "n")) (xCons (xC (.str "zz")) (xCons (xC (.str "zzzzzzzz")) xNil))))))))))) xNil))) xNo (xSo (xVar 1))) xNil)) xNil))))
def x__law_tags : GA := xFn 2 2 b__law_tags
theorem ok__law_tags (T : Blt mg) (L : Lib Cl.K mg) : FnOk P w Cl.K mg base CX0 3 L.f__law_tags L.fd__law_tags ["_law_urn", "_law_size_so"] (spD (spX x__law_tags)) := by
  refine fnX (k := 2) (body := b__law_tags) L.a__law_tags.fn sc__law_tags rfl rfl fun cdv A outer s H E hr => ?_
  have nd := sc__law_tags.nd
  exact ⟨_, (xsT1 (xsret (dm_lift (ds_ret (xpl (xcall cx_tuple (de_callTy dc_tupleA T.tuple (xcons (da_cons (xcall cx_sortT (de_callB dc_sortedT T.sorted (xcons (da_cons (xsl (de_slice (xcall spX_call (de_call (ok__law_mixed T L) (hr.mono (by decide)) L.a__law_mixed.mg L.a__law_mixed.fn.kp L.a__law_mixed.bd (xcons (da_cons (xv (dv 0)) (xcons (da_cons (xlst (de_lst (xcons (da_cons (xc (.str "a") de_str) (xcons (da_cons (xc (.str "ab") de_str) (xcons (da_cons (xc (.str "b") de_str) (xcons (da_cons (xc (.str "c") de_str) (xcons (da_cons (xc (.str "d") de_str) (xcons (da_cons (xc (.str "e") de_str) (xcons (da_cons (xc (.str "k") de_str) (xcons (da_cons (xc (.str "n") de_str) (xcons (da_cons (xc (.str "zz") de_str) (xcons (da_cons (xc (.str "zzzzzzzz") de_str) (xnil da_nil))))))))))))))))))))))) (xnil da_nil))))))) (xno dp_none) (xso (dp_some (xv (dv 1)))))) (xnil da_nil))))) (xnil da_nil)))))))))), rfl⟩
theorem sc__law_line : FnScope ["_law_urn", "_law_tags_here", "_law_many_so", "_law_high_so", "_law_mat", "_law_held", "_law_turn", "_law_word", "_law_what", "_law_own"] ["_law_urn", "_law_tags_here", "_law_many_so", "_law_high_so"] (defScope s__law_line) := ⟨rfl, rfl, rfl, by decide +kernel, rfl, by decide +kernel, by decide +kernel⟩
def l__law_line_0 : XS := (xsSeq (xsSet 7 (pl (xIf (xB (xBin (gEq true) (xVar 1) (xTup xNil))) (xCall x__law_of (xCons (xVar 0) (xCons (xLst (xCons (xC (.str "touch")) (xCons (xC (.str "touch")) (xCons (xC (.str "forget")) (xCons (xC (.str "cap")) (xCons (xC (.str "cap")) xNil)))))) xNil))) (xC (.str "cap")))))
 (xsSeq (xsIf (pl (xB (xBin (gEq false) (xVar 7) (xC (.str "cap")))))
 (xsSet 8 (pl (xBin gAdd (xBin gAdd (xC (.int 1)) (xCall x__law_take (xCons (xVar 0) (xCons (xVar 3) xNil)))) (xIf (xB (xBin gGt (xCall x__law_take (xCons (xVar 0) (xCons (xC (.int 12)) xNil))) (xC (.int 0)))) (xCall gLen (xCons (xVar 5) xNil)) (xC (.int 0))))))
 (xsSeq (xsSet 8 (pl (xCall x__law_of (xCons (xVar 0) (xCons (xVar 1) xNil)))))
 (xsSeq (xsSet 5 (pl (xCall gTuple (xCons (xLc (xItV 5) (asgN (fun p => p) 9) (xB (xBin (gEq true) (xVar 9) (xVar 8))) (xVar 9) [9]) xNil))))
 (xsSet 5 (pl (xIf (xB (xBin (gEq false) (xVar 7) (xC (.str "touch")))) (xBin gAdd (xVar 5) (xTup (xCons (xVar 8) xNil))) (xVar 5)))))))
 (xsApp 4 (pl (xTup (xCons (xVar 7) (xCons (xVar 8) xNil)))))))
def b__law_line : XS := (xsPar2A 4 5 (pl (xTup xNil))
 (xsSeq (xsFor (pl (xItR (xCall x__law_take (xCons (xVar 0) (xCons (xBin gAdd (xVar 2) (xC (.int 1))) xNil))))) (asgN XV.p 6) l__law_line_0)
 (xsRel (xsRet (pl (xVar 4))))))
def x__law_line : GA := xFn 10 4 b__law_line
theorem ok__law_line (T : Blt mg) (L : Lib Cl.K mg) : FnOk P w Cl.K mg base CX0 3 L.f__law_line L.fd__law_line ["_law_urn", "_law_tags_here", "_law_many_so", "_law_high_so"] (spD (spX x__law_line)) := by
  refine fnX (k := 2) (body := b__law_line) L.a__law_line.fn sc__law_line rfl rfl fun cdv A outer s H E hr => ?_
  have nd := sc__law_line.nd
  exact ⟨_, (xspar2a (dmT_par2a (i := 4) (j := 5) rfl nd (xpl (xtup (de_tup (xnil da_nil))))
 (xsconsT (dmT_cons (xsfor gm_name (dm_for PassesOwn.never rfl (xplI (xitR (di_range T.range (xcall spX_call (de_call (ok__law_take T L) (hr.mono (by decide)) L.a__law_take.mg L.a__law_take.fn.kp L.a__law_take.bd (xcons (da_cons (xv (dv 0)) (xcons (da_cons (xbin ox_add (de_op do_add (xv (dv 2)) (xc (.int 1) de_int))) (xnil da_nil)))))))))) (dg_name (i := 6) nd)
 (xscons (dm_cons (xsset (dm_lift (ds_set (i := 7) nd (xpl (xif (de_if (xtbin (ox_eq (neg := true)) (dt_cmp (do_alt do_ne (do_neD hr.units)) (xv (dv 1)) (xtup (de_tup (xnil da_nil))))) (xcall spX_call (de_call (ok__law_of T L) (hr.mono (by decide)) L.a__law_of.mg L.a__law_of.fn.kp L.a__law_of.bd (xcons (da_cons (xv (dv 0)) (xcons (da_cons (xlst (de_lst (xcons (da_cons (xc (.str "touch") de_str) (xcons (da_cons (xc (.str "touch") de_str) (xcons (da_cons (xc (.str "forget") de_str) (xcons (da_cons (xc (.str "cap") de_str) (xcons (da_cons (xc (.str "cap") de_str) (xnil da_nil))))))))))))) (xnil da_nil))))))) (xc (.str "cap") de_str)))))))
 (xscons (dm_cons (xsif (dm_if (xplT (xtbin (ox_eq (neg := false)) (dt_cmp (do_alt do_eq (do_eqD hr.units)) (xv (dv 7)) (xc (.str "cap") de_str))))
 (dm_one (xsset (dm_lift (ds_set (i := 8) nd (xpl (xbin ox_add (de_op do_add (xbin ox_add (de_op do_add (xc (.int 1) de_int) (xcall spX_call (de_call (ok__law_take T L) (hr.mono (by decide)) L.a__law_take.mg L.a__law_take.fn.kp L.a__law_take.bd (xcons (da_cons (xv (dv 0)) (xcons (da_cons (xv (dv 3)) (xnil da_nil))))))))) (xif (de_if (xtbin ox_gt (dt_cmp do_gt (xcall spX_call (de_call (ok__law_take T L) (hr.mono (by decide)) L.a__law_take.mg L.a__law_take.fn.kp L.a__law_take.bd (xcons (da_cons (xv (dv 0)) (xcons (da_cons (xc (.int 12) de_int) (xnil da_nil))))))) (xc (.int 0) de_int))) (xcall cx_len (de_callB dc_lenA T.len (xcons (da_cons (xv (dv 5)) (xnil da_nil))))) (xc (.int 0) de_int))))))))))
 (xscons (dm_cons (xsset (dm_lift (ds_set (i := 8) nd (xpl (xcall spX_call (de_call (ok__law_of T L) (hr.mono (by decide)) L.a__law_of.mg L.a__law_of.fn.kp L.a__law_of.bd (xcons (da_cons (xv (dv 0)) (xcons (da_cons (xv (dv 1)) (xnil da_nil)))))))))))
 (xscons (dm_cons (xsset (dm_lift (ds_set (i := 5) nd (xpl (xcall cx_tuple (de_callTy dc_tupleA T.tuple (xcons (da_cons (xlc gx_name tok_t (de_lc (own := [("_law_own", 9)]) rfl nd (xitV (di_var 5 (dv 5))) (blkOk_by (N := ["_law_urn", "_law_tags_here", "_law_many_so", "_law_high_so", "_law_mat", "_law_held", "_law_turn", "_law_word", "_law_what", "_law_own"]) (sc := defScope s__law_line) (by decide +kernel)) (fun _ _ _ _ _ => dg_name (i := 9) nd) (fun _ _ _ _ _ => dts_one (xtbin (ox_eq (neg := true)) (dt_cmp (do_alt do_ne (do_neD hr.units)) (xv (dv 9)) (xv (dv 8))))) (fun _ _ _ _ _ => (xv (dv 9))))) (xnil da_nil)))))))))
 (dm_one (xsset (dm_lift (ds_set (i := 5) nd (xpl (xif (de_if (xtbin (ox_eq (neg := false)) (dt_cmp (do_alt do_eq (do_eqD hr.units)) (xv (dv 7)) (xc (.str "touch") de_str))) (xbin ox_add (de_op do_add (xv (dv 5)) (xtup (de_tup (xcons (da_cons (xv (dv 8)) (xnil da_nil))))))) (xv (dv 5)))))))))))))))
 (dm_one (xsapp (dm_app (i := 4) (dv 4) (xpl (xtup (de_tup (xcons (da_cons (xv (dv 7)) (xcons (da_cons (xv (dv 8)) (xnil da_nil)))))))))))))))))
 (xsrel (dmT_rel (xsT1 (xsret (dm_lift (ds_ret (xpl (xv (dv 4))))))))))))), rfl⟩
theorem sc__law_known : FnScope ["_law_mat", "_law_here", "_law_named", "_law_rows_so", "_law_word", "_law_what", "_law_away_so", "_law_own"] ["_law_mat"] (defScope s__law_known) := ⟨rfl, rfl, rfl, by decide +kernel, rfl, by decide +kernel, by decide +kernel⟩
def l__law_known_0 : XS := (xsIf (pl (xB (xBin (gEq true) (xVar 4) (xC (.str "cap")))))
 (xsSeq (xsSet 1 (pl (xCall gTuple (xCons (xLc (xItV 1) (asgN (fun p => p) 7) (xB (xBin (gEq true) (xVar 7) (xVar 5))) (xVar 7) [7]) xNil))))
 (xsSeq (xsSet 1 (pl (xIf (xB (xBin (gEq false) (xVar 4) (xC (.str "touch")))) (xBin gAdd (xTup (xCons (xVar 5) xNil)) (xVar 1)) (xVar 1))))
 (xsSet 2 (pl (xCall gTuple (xCons (xMap gSortSetT (xBin gAdd (xVar 2) (xTup (xCons (xVar 5) xNil)))) xNil))))))
 (xsIf (rlT (xOr (xB (xIsN false (xVar 3))) (xB (xBin gLe (xVar 5) (xCall gLen (xCons (xVar 1) xNil))))))
 (xsAsg (pl (xTup (xCons (xSl (xVar 1) xNo (xSo (xVar 5))) (xCons (xC .non) xNil)))) (asgT XV.p [1, 3]))
 (xsApp 3 (pl (xTup (xCons (xVar 2) (xCons (xBin gSub (xVar 5) (xCall gLen (xCons (xVar 1) xNil))) xNil)))))))
def b__law_known : XS := (xsPar3O 1 2 3 (pl (xTup xNil)) (pl (xTup xNil))
 (xsSeq (xsFor (pl (xItV 0)) (asgT XV.p [4, 5]) l__law_known_0)
 (xsRel (xsSeq (xsSet 6 (pl (xIf (xB (xIsN false (xVar 3))) (xTup xNil) (xCall gTuple (xCons (xLc (xItV 2) (asgN (fun p => p) 7) (xB (xBin (gIn true) (xVar 7) (xVar 1))) (xVar 7) [7]) xNil)))))
 (xsRet (pl (xTup (xCons (xVar 1) (xCons (xVar 6) (xCons (xVar 3) xNil))))))))))
def x__law_known : GA := xFn 8 1 b__law_known
theorem ok__law_known (T : Blt mg) (L : Lib Cl.K mg) : FnOk P w Cl.K mg base CX0 1 L.f__law_known L.fd__law_known ["_law_mat"] (spD (spX x__law_known)) := by
  refine fnX (k := 0) (body := b__law_known) L.a__law_known.fn sc__law_known rfl rfl fun cdv A outer s H E hr => ?_
  have nd := sc__law_known.nd
  exact ⟨_, (xspar3oA (dmT_asg3o (xpl (xtup (de_tup (xnil da_nil)))) (xpl (xtup (de_tup (xnil da_nil)))) (dg_tup3 (i := 1) (j := 2) (k := 3) rfl nd)
 (xsconsT (dmT_cons (xsfor gm_tup2 (dm_for PassesOwn.never rfl (xplI (xitV (di_var 0 (dv 0)))) (dg_tup2 (i := 4) (j := 5) rfl nd)
 (dm_one (xsif (dm_if (xplT (xtbin (ox_eq (neg := true)) (dt_cmp (do_alt do_ne (do_neD hr.units)) (xv (dv 4)) (xc (.str "cap") de_str))))
 (xscons (dm_cons (xsset (dm_lift (ds_set (i := 1) nd (xpl (xcall cx_tuple (de_callTy dc_tupleA T.tuple (xcons (da_cons (xlc gx_name tok_t (de_lc (own := [("_law_own", 7)]) rfl nd (xitV (di_var 1 (dv 1))) (blkOk_by (N := ["_law_mat", "_law_here", "_law_named", "_law_rows_so", "_law_word", "_law_what", "_law_away_so", "_law_own"]) (sc := defScope s__law_known) (by decide +kernel)) (fun _ _ _ _ _ => dg_name (i := 7) nd) (fun _ _ _ _ _ => dts_one (xtbin (ox_eq (neg := true)) (dt_cmp (do_alt do_ne (do_neD hr.units)) (xv (dv 7)) (xv (dv 5))))) (fun _ _ _ _ _ => (xv (dv 7))))) (xnil da_nil)))))))))
 (xscons (dm_cons (xsset (dm_lift (ds_set (i := 1) nd (xpl (xif (de_if (xtbin (ox_eq (neg := false)) (dt_cmp (do_alt do_eq (do_eqD hr.units)) (xv (dv 4)) (xc (.str "touch") de_str))) (xbin ox_add (de_op do_add (xtup (de_tup (xcons (da_cons (xv (dv 5)) (xnil da_nil))))) (xv (dv 1)))) (xv (dv 1))))))))
 (dm_one (xsset (dm_lift (ds_set (i := 2) nd (xpl (xcall cx_tuple (de_callTy dc_tupleA T.tuple (xcons (da_cons (xsortsetT (de_sortsetT T.sorted T.set (xbin ox_add (de_op do_add (xv (dv 2)) (xtup (de_tup (xcons (da_cons (xv (dv 5)) (xnil da_nil))))))))) (xnil da_nil))))))))))))))
 (dm_one (xsif (dm_if (xrlT (dt_rel (Dw.pt (xwor (dw_or (xtis (dt_isN (xv (dv 3)))) (dw_or1 (xtbin ox_le (dt_cmp do_le (xv (dv 5)) (xcall cx_len (de_callB dc_lenA T.len (xcons (da_cons (xv (dv 1)) (xnil da_nil)))))))))))))
 (dm_one (xsasg gm_tup2 (dm_lift (ds_asg (xpl (xtup (de_tup (xcons (da_cons (xsl (de_slice (xv (dv 1)) (xno dp_none) (xso (dp_some (xv (dv 5)))))) (xcons (da_cons (xc .non de_non) (xnil da_nil)))))))) (dg_tup2 (i := 1) (j := 3) rfl nd)))))
 (dm_one (xsapp (dm_app (i := 3) (dv 3) (xpl (xtup (de_tup (xcons (da_cons (xv (dv 2)) (xcons (da_cons (xbin ox_sub (de_op do_sub (xv (dv 5)) (xcall cx_len (de_callB dc_lenA T.len (xcons (da_cons (xv (dv 1)) (xnil da_nil))))))) (xnil da_nil)))))))))))))))))))
 (xsrel (dmT_rel (xsconsT (dmT_cons (xsset (dm_lift (ds_set (i := 6) nd (xpl (xif (de_if (xtis (dt_isN (xv (dv 3)))) (xtup (de_tup (xnil da_nil))) (xcall cx_tuple (de_callTy dc_tupleA T.tuple (xcons (da_cons (xlc gx_name tok_t (de_lc (own := [("_law_own", 7)]) rfl nd (xitV (di_var 2 (dv 2))) (blkOk_by (N := ["_law_mat", "_law_here", "_law_named", "_law_rows_so", "_law_word", "_law_what", "_law_away_so", "_law_own"]) (sc := defScope s__law_known) (by decide +kernel)) (fun _ _ _ _ _ => dg_name (i := 7) nd) (fun _ _ _ _ _ => dts_one (xtbin (ox_in (neg := true)) (dt_cmp do_notin (xv (dv 7)) (xv (dv 1))))) (fun _ _ _ _ _ => (xv (dv 7))))) (xnil da_nil)))))))))))
 (xsT1 (xsret (dm_lift (ds_ret (xpl (xtup (de_tup (xcons (da_cons (xv (dv 1)) (xcons (da_cons (xv (dv 6)) (xcons (da_cons (xv (dv 3)) (xnil da_nil)))))))))))))))))))))), rfl⟩
end
end TC
namespace TC
open PySem PySem.Spec PyProof.Rows L2 RZ
variable [Cl]
section
variable {P : Program} {w : World} {K : PySem.W.Frag} {mg : Str → Option Value} {base : Heap}
theorem sc__law_apart : FnScope ["_law_some", "_law_far", "_law_own"] ["_law_some", "_law_far"] (defScope s__law_apart) := ⟨rfl, rfl, rfl, by decide +kernel, rfl, by decide +kernel, by decide +kernel⟩
def b__law_apart : XS := (xsRet (pl (xCall gTuple (xCons (xLc (xItV 0) (asgN (fun p => p) 2) (xB (xBin (gIn true) (xVar 2) (xVar 1))) (xVar 2) [2]) xNil))))
def x__law_apart : GA := xFn 3 2 b__law_apart
theorem ok__law_apart (T : Blt mg) (L : Lib Cl.K mg) : FnOk P w Cl.K mg base CX0 1 L.f__law_apart L.fd__law_apart ["_law_some", "_law_far"] (spD (spX x__law_apart)) := by
  refine fnX (k := 0) (body := b__law_apart) L.a__law_apart.fn sc__law_apart rfl rfl fun cdv A outer s H E hr => ?_
  have nd := sc__law_apart.nd
  exact ⟨_, (xsT1 (xsret (dm_lift (ds_ret (xpl (xcall cx_tuple (de_callTy dc_tupleA T.tuple (xcons (da_cons (xlc gx_name tok_t (de_lc (own := [("_law_own", 2)]) rfl nd (xitV (di_var 0 (dv 0))) (blkOk_by (N := ["_law_some", "_law_far", "_law_own"]) (sc := defScope s__law_apart) (by decide +kernel)) (fun _ _ _ _ _ => dg_name (i := 2) nd) (fun _ _ _ _ _ => dts_one (xtbin (ox_in (neg := true)) (dt_cmp do_notin (xv (dv 2)) (xv (dv 1))))) (fun _ _ _ _ _ => (xv (dv 2))))) (xnil da_nil)))))))))), rfl⟩
theorem sc__law_reach : FnScope ["_law_rows_so", "_law_some", "_law_own"] ["_law_rows_so", "_law_some"] (defScope s__law_reach) := ⟨rfl, rfl, rfl, by decide +kernel, rfl, by decide +kernel, by decide +kernel⟩
def b__law_reach : XS := (xsSeq (xsIf (pl (xB (xIsN false (xVar 0))))
 (xsRet (pl (xC (.int 0))))
 xsNext)
 (xsRet (pl (xIf (xB (xBin (gEq true) (xVar 0) (xLst xNil))) (xCall gMin1 (xCons (xLc (xItV 0) (asgN (fun p => p) 2) xYes (xBin gAdd (xBin gIx (xVar 2) (xC (.int 1))) (xCall gLen (xCons (xCall x__law_apart (xCons (xBin gIx (xVar 2) (xC (.int 0))) (xCons (xVar 1) xNil))) xNil))) [2]) xNil)) (xC .non)))))
def x__law_reach : GA := xFn 3 2 b__law_reach
theorem ok__law_reach (T : Blt mg) (L : Lib Cl.K mg) : FnOk P w Cl.K mg base CX0 2 L.f__law_reach L.fd__law_reach ["_law_rows_so", "_law_some"] (spD (spX x__law_reach)) := by
  refine fnX (k := 1) (body := b__law_reach) L.a__law_reach.fn sc__law_reach rfl rfl fun cdv A outer s H E hr => ?_
  have nd := sc__law_reach.nd
  exact ⟨_, (xsconsT (dmT_cons (xsif (dm_if (xplT (xtis (dt_isN (xv (dv 0)))))
 (dm_one (xsret (dm_lift (ds_ret (xpl (xc (.int 0) de_int))))))
 (xsnil dm_nil)))
 (xsT1 (xsret (dm_lift (ds_ret (xpl (xif (de_if (xtbin (ox_eq (neg := true)) (dt_cmp (do_alt do_ne (do_neD hr.units)) (xv (dv 0)) (xlst (de_lst (xnil da_nil))))) (xcall cx_min1 (de_callB (dc_min1 rfl) T.min (xcons (da_cons (xlc gx_name tok_yes (de_lc (own := [("_law_own", 2)]) rfl nd (xitV (di_var 0 (dv 0))) (blkOk_by (N := ["_law_rows_so", "_law_some", "_law_own"]) (sc := defScope s__law_reach) (by decide +kernel)) (fun _ _ _ _ _ => dg_name (i := 2) nd) (fun _ _ _ _ _ => dts_nil) (fun _ _ _ _ _ => (xbin ox_add (de_op do_add (xix (de_ix (xv (dv 2)) (xc (.int 1) de_int))) (xcall cx_len (de_callB dc_lenA T.len (xcons (da_cons (xcall spX_call (de_call (ok__law_apart T L) (hr.mono (by decide)) L.a__law_apart.mg L.a__law_apart.fn.kp L.a__law_apart.bd (xcons (da_cons (xix (de_ix (xv (dv 2)) (xc (.int 0) de_int))) (xcons (da_cons (xv (dv 1)) (xnil da_nil))))))) (xnil da_nil)))))))))) (xnil da_nil))))) (xc .non de_non)))))))))), rfl⟩
theorem sc__law_height : FnScope ["_law_mat", "_law_rows_so", "_law_tags_here", "_law_word", "_law_what", "_law_k"] ["_law_mat"] (defScope s__law_height) := ⟨rfl, rfl, rfl, by decide +kernel, rfl, by decide +kernel, by decide +kernel⟩
def l__law_height_0 : XS := (xsIf (rlT (xAnd (xB (xBin (gEq true) (xVar 3) (xC (.str "cap")))) (xB (xBin (gIn true) (xVar 4) (xVar 2)))))
 (xsApp 2 (pl (xVar 4)))
 xsNext)
def b__law_height : XS := (xsPar2B 1 2 (pl (xBin gIx (xCall x__law_known (xCons (xVar 0) xNil)) (xC (.int 2))))
 (xsSeq (xsFor (pl (xItV 0)) (asgT XV.p [3, 4]) l__law_height_0)
 (xsRel (xsRet (pl (xIf (xTru (xVar 1)) (xCall gSum (xCons (xLc (xItR (xBin gAdd (xCall gLen (xCons (xVar 2) xNil)) (xC (.int 1)))) (asgN (fun p => p) 5) xYes (xBin gSub (xCall x__law_reach (xCons (xVar 1) (xCons (xSl (xVar 2) xNo (xSo (xVar 5))) xNil))) (xC (.int 1))) [5]) xNil)) (xC .non)))))))
def x__law_height : GA := xFn 6 1 b__law_height
theorem ok__law_height (T : Blt mg) (L : Lib Cl.K mg) : FnOk P w Cl.K mg base CX0 3 L.f__law_height L.fd__law_height ["_law_mat"] (spD (spX x__law_height)) := by
  refine fnX (k := 2) (body := b__law_height) L.a__law_height.fn sc__law_height rfl rfl fun cdv A outer s H E hr => ?_
  have nd := sc__law_height.nd
  exact ⟨_, (xspar2bA (dmT_asg2b (xpl (xix (de_ix (xcall spX_call (de_call (ok__law_known T L) (hr.mono (by decide)) L.a__law_known.mg L.a__law_known.fn.kp L.a__law_known.bd (xcons (da_cons (xv (dv 0)) (xnil da_nil))))) (xc (.int 2) de_int)))) (dg_tup2 (i := 1) (j := 2) rfl nd)
 (xsconsT (dmT_cons (xsfor gm_tup2 (dm_for PassesOwn.never rfl (xplI (xitV (di_var 0 (dv 0)))) (dg_tup2 (i := 3) (j := 4) rfl nd)
 (dm_one (xsif (dm_if (xrlT (dt_rel (Dw.pt (xwand (dw_and (xtbin (ox_eq (neg := true)) (dt_cmp (do_alt do_ne (do_neD hr.units)) (xv (dv 3)) (xc (.str "cap") de_str))) (dw_and1 (xtbin (ox_in (neg := true)) (dt_cmp do_notin (xv (dv 4)) (xv (dv 2))))))))))
 (dm_one (xsapp (dm_app (i := 2) (dv 2) (xpl (xv (dv 4))))))
 (xsnil dm_nil))))))
 (xsrel (dmT_rel (xsT1 (xsret (dm_lift (ds_ret (xpl (xif (de_if (xttru (dt_tru (xv (dv 1)))) (xcall cx_sum (de_callB (dc_sum rfl) T.sum (xcons (da_cons (xlc gx_name tok_yes (de_lc (own := [("_law_k", 5)]) rfl nd (xitR (di_range T.range (xbin ox_add (de_op do_add (xcall cx_len (de_callB dc_lenA T.len (xcons (da_cons (xv (dv 2)) (xnil da_nil))))) (xc (.int 1) de_int))))) (blkOk_by (N := ["_law_mat", "_law_rows_so", "_law_tags_here", "_law_word", "_law_what", "_law_k"]) (sc := defScope s__law_height) (by decide +kernel)) (fun _ _ _ _ _ => dg_name (i := 5) nd) (fun _ _ _ _ _ => dts_nil) (fun _ _ _ _ _ => (xbin ox_sub (de_op do_sub (xcall spX_call (de_call (ok__law_reach T L) (hr.mono (by decide)) L.a__law_reach.mg L.a__law_reach.fn.kp L.a__law_reach.bd (xcons (da_cons (xv (dv 1)) (xcons (da_cons (xsl (de_slice (xv (dv 2)) (xno dp_none) (xso (dp_some (xv (dv 5)))))) (xnil da_nil))))))) (xc (.int 1) de_int)))))) (xnil da_nil))))) (xc .non de_non)))))))))))))), rfl⟩
theorem sc__law_host : FnScope ["_law_mat", "_law_own"] ["_law_mat"] (defScope s__law_host) := ⟨rfl, rfl, rfl, by decide +kernel, rfl, by decide +kernel, by decide +kernel⟩
def b__law_host : XS := (xsRet (pl (xMake 1 x_Rule__d____init__ (xCons (xLc (xItV 0) (asgN (fun p => p) 1) xYes (xMake 0 x_Step__d____init__ (xCons (xBin gIx (xVar 1) (xC (.int 0))) (xCons (xBin gIx (xVar 1) (xC (.int 1))) xNil))) [1]) xNil))))
def x__law_host : GA := xFn 2 1 b__law_host
theorem ok__law_host (T : Blt mg) (L : Lib Cl.K mg) : FnOk P w Cl.K mg base CX0 5 L.f__law_host L.fd__law_host ["_law_mat"] (spD (spX x__law_host)) := by
  refine fnX (k := 4) (body := b__law_host) L.a__law_host.fn sc__law_host rfl rfl fun cdv A outer s H E hr => ?_
  have nd := sc__law_host.nd
  exact ⟨_, (xsT1 (xsret (dm_lift (ds_ret (xpl (xmake (inX_Rule__d____init__) (de_make 1 L.mk_Rule (ok_Rule__d____init__ T L) (hr.mono (by decide)) L.mg_Rule L.a_Rule__d____init__.bd (xcons (da_cons (xlc gx_name tok_yes (de_lc (own := [("_law_own", 1)]) rfl nd (xitV (di_var 0 (dv 0))) (blkOk_by (N := ["_law_mat", "_law_own"]) (sc := defScope s__law_host) (by decide +kernel)) (fun _ _ _ _ _ => dg_name (i := 1) nd) (fun _ _ _ _ _ => dts_nil) (fun _ _ _ _ _ => (xmake (inX_Step__d____init__) (de_make 0 L.mk_Step (ok_Step__d____init__ T L) (hr.mono (by decide)) L.mg_Step L.a_Step__d____init__.bd (xcons (da_cons (xix (de_ix (xv (dv 1)) (xc (.int 0) de_int))) (xcons (da_cons (xix (de_ix (xv (dv 1)) (xc (.int 1) de_int))) (xnil da_nil)))))))))) (xnil da_nil)))))))))), rfl⟩
theorem sc__law_right : FnScope ["_law_urn", "_law_turn", "_law_tags_here", "_law_more_so", "_law_mat", "_law_due", "_law_wide", "_law_many_so", "_law_own"] ["_law_urn"] (defScope s__law_right) := ⟨rfl, rfl, rfl, by decide +kernel, rfl, by decide +kernel, by decide +kernel⟩
def l__law_right_0 : XS := (xsSeq (xsAsg (pl (xTup (xCons (xCall x__law_tags (xCons (xVar 0) (xCons (xCall x__law_take (xCons (xVar 0) (xCons (xC (.int 5)) xNil))) xNil))) (xCons (xCall x__law_of (xCons (xVar 0) (xCons (xLst (xCons (xC (.int 1)) (xCons (xC (.int 2)) (xCons (xBin gPow (xC (.int 10)) (xC (.int 20))) (xCons (xBin gPow (xC (.int 10)) (xC (.int 39))) xNil))))) xNil))) xNil)))) (asgT XV.p [2, 3]))
 (xsSeq (xsSet 4 (pl (xCall x__law_line (xCons (xVar 0) (xCons (xVar 2) (xCons (xC (.int 9)) (xCons (xC (.int 5)) xNil)))))))
 (xsSeq (xsSet 5 (pl (xCall x__law_height (xCons (xVar 4) xNil))))
 (xsSeq (xsSet 6 (pl (xLc (xItV 4) (asgN (fun p => p) 8) xYes (xIf (xB (xBin (gEq false) (xBin gIx (xVar 8) (xC (.int 0))) (xC (.str "cap")))) (xTup (xCons (xC (.str "cap")) (xCons (xBin gAdd (xBin gIx (xVar 8) (xC (.int 1))) (xVar 3)) xNil))) (xVar 8)) [8])))
 (xsSeq (xsSet 7 (pl (xMap gLenSetL (xLc (xItV 4) (asgN (fun p => p) 8) (xB (xBin (gEq true) (xBin gIx (xVar 8) (xC (.int 0))) (xC (.str "cap")))) (xBin gIx (xVar 8) (xC (.int 1))) [8]))))
 (xsSeq (xsIf (pl (xNot (xB (xCall (x__law_same 3) (xCons (xLst (xCons (xCall x_height (xCons (xCall x__law_host (xCons (xVar 4) xNil)) xNil)) (xCons (xCallK 1 (rp [0]) x_height (xCons (xCall x__law_host (xCons (xVar 4) xNil)) xNil)) xNil))) (xCons (xLst (xCons (xVar 5) (xCons (xVar 5) xNil))) xNil))))))
 (xsRet (pl (xC (.bl false))))
 xsNext)
 (xsIf (pl (xAnd (xB (xIsN true (xVar 5))) (xNot (xB (xCall (x__law_same 3) (xCons (xCall x_height (xCons (xCall x__law_host (xCons (xVar 6) xNil)) xNil)) (xCons (xBin gAdd (xVar 5) (xBin gMul (xVar 3) (xBin gAdd (xVar 7) (xC (.int 1))))) xNil)))))))
 (xsRet (pl (xC (.bl false))))
 xsNext)))))))
def b__law_right : XS := (xsSeq (xsFor (pl (xItR (xC (.int 16)))) (asgN XV.p 1) l__law_right_0)
 (xsRet (pl (xC (.bl true)))))
def x__law_right : GA := xFn 9 1 b__law_right
theorem ok__law_right (T : Blt mg) (L : Lib Cl.K mg) : FnOk P w Cl.K mg base CX0 9 L.f__law_right L.fd__law_right ["_law_urn"] (spD (spX x__law_right)) := by
  refine fnX (k := 8) (body := b__law_right) L.a__law_right.fn sc__law_right rfl rfl fun cdv A outer s H E hr => ?_
  have nd := sc__law_right.nd
  exact ⟨_, (xsconsT (dmT_cons (xsfor gm_name (dm_for PassesOwn.never rfl (xplI (xitR (di_range T.range (xc (.int 16) de_int)))) (dg_name (i := 1) nd)
 (xscons (dm_cons (xsasg gm_tup2 (dm_lift (ds_asg (xpl (xtup (de_tup (xcons (da_cons (xcall spX_call (de_call (ok__law_tags T L) (hr.mono (by decide)) L.a__law_tags.mg L.a__law_tags.fn.kp L.a__law_tags.bd (xcons (da_cons (xv (dv 0)) (xcons (da_cons (xcall spX_call (de_call (ok__law_take T L) (hr.mono (by decide)) L.a__law_take.mg L.a__law_take.fn.kp L.a__law_take.bd (xcons (da_cons (xv (dv 0)) (xcons (da_cons (xc (.int 5) de_int) (xnil da_nil))))))) (xnil da_nil))))))) (xcons (da_cons (xcall spX_call (de_call (ok__law_of T L) (hr.mono (by decide)) L.a__law_of.mg L.a__law_of.fn.kp L.a__law_of.bd (xcons (da_cons (xv (dv 0)) (xcons (da_cons (xlst (de_lst (xcons (da_cons (xc (.int 1) de_int) (xcons (da_cons (xc (.int 2) de_int) (xcons (da_cons (xbin ox_pow (de_op do_pow (xc (.int 10) de_int) (xc (.int 20) de_int))) (xcons (da_cons (xbin ox_pow (de_op do_pow (xc (.int 10) de_int) (xc (.int 39) de_int))) (xnil da_nil))))))))))) (xnil da_nil))))))) (xnil da_nil)))))))) (dg_tup2 (i := 2) (j := 3) rfl nd))))
 (xscons (dm_cons (xsset (dm_lift (ds_set (i := 4) nd (xpl (xcall spX_call (de_call (ok__law_line T L) (hr.mono (by decide)) L.a__law_line.mg L.a__law_line.fn.kp L.a__law_line.bd (xcons (da_cons (xv (dv 0)) (xcons (da_cons (xv (dv 2)) (xcons (da_cons (xc (.int 9) de_int) (xcons (da_cons (xc (.int 5) de_int) (xnil da_nil)))))))))))))))
 (xscons (dm_cons (xsset (dm_lift (ds_set (i := 5) nd (xpl (xcall spX_call (de_call (ok__law_height T L) (hr.mono (by decide)) L.a__law_height.mg L.a__law_height.fn.kp L.a__law_height.bd (xcons (da_cons (xv (dv 4)) (xnil da_nil)))))))))
 (xscons (dm_cons (xssetlc gx_name tok_yes (dm_lift (ds_setLc (i := 6) (own := [("_law_own", 8)]) rfl nd (xitV (di_var 4 (dv 4))) (blkOk_by (N := ["_law_urn", "_law_turn", "_law_tags_here", "_law_more_so", "_law_mat", "_law_due", "_law_wide", "_law_many_so", "_law_own"]) (sc := defScope s__law_right) (by decide +kernel)) (fun _ _ _ _ _ => dg_name (i := 8) nd) (fun _ _ _ _ _ => dts_nil) (fun _ _ _ _ _ => (xif (de_if (xtbin (ox_eq (neg := false)) (dt_cmp (do_alt do_eq (do_eqD hr.units)) (xix (de_ix (xv (dv 8)) (xc (.int 0) de_int))) (xc (.str "cap") de_str))) (xtup (de_tup (xcons (da_cons (xc (.str "cap") de_str) (xcons (da_cons (xbin ox_add (de_op do_add (xix (de_ix (xv (dv 8)) (xc (.int 1) de_int))) (xv (dv 3)))) (xnil da_nil))))))) (xv (dv 8))))))))
 (xscons (dm_cons (xsset (dm_lift (ds_set (i := 7) nd (xpl (xlensetL (de_lensetL T.len T.set (xlc gx_name tok_t (de_lc (own := [("_law_own", 8)]) rfl nd (xitV (di_var 4 (dv 4))) (blkOk_by (N := ["_law_urn", "_law_turn", "_law_tags_here", "_law_more_so", "_law_mat", "_law_due", "_law_wide", "_law_many_so", "_law_own"]) (sc := defScope s__law_right) (by decide +kernel)) (fun _ _ _ _ _ => dg_name (i := 8) nd) (fun _ _ _ _ _ => dts_one (xtbin (ox_eq (neg := true)) (dt_cmp (do_alt do_ne (do_neD hr.units)) (xix (de_ix (xv (dv 8)) (xc (.int 0) de_int))) (xc (.str "cap") de_str)))) (fun _ _ _ _ _ => (xix (de_ix (xv (dv 8)) (xc (.int 1) de_int))))))))))))
 (xscons (dm_cons (xsif (dm_if (xplT (xtnot (dt_not (xtb (dt_val (xcall spX_call (de_call (ok__law_same T L 3) (hr.mono (by decide)) L.a__law_same.mg L.a__law_same.fn.kp L.a__law_same.bd (xcons (da_cons (xlst (de_lst (xcons (da_cons (xcall spX_call (de_call (ok_height T L) (hr.mono (by decide)) L.a_height.mg L.a_height.fn.kp L.a_height.bd (xcons (da_cons (xcall spX_call (de_call (ok__law_host T L) (hr.mono (by decide)) L.a__law_host.mg L.a__law_host.fn.kp L.a__law_host.bd (xcons (da_cons (xv (dv 4)) (xnil da_nil))))) (xnil da_nil))))) (xcons (da_cons (xcallK (rp_D 1 [0]) spX_call (de_callK0 (ok_height T L) (hr.mono (by decide)) L.a_height.mg L.a_height.fn.kp (kb_height_p L.a_height.fn) (hg_rp 1 [0]) (xkcons (dk_cons (xcall spX_call (de_call (ok__law_host T L) (hr.mono (by decide)) L.a__law_host.mg L.a__law_host.fn.kp L.a__law_host.bd (xcons (da_cons (xv (dv 4)) (xnil da_nil))))) (xknil dk_nil))))) (xnil da_nil))))))) (xcons (da_cons (xlst (de_lst (xcons (da_cons (xv (dv 5)) (xcons (da_cons (xv (dv 5)) (xnil da_nil))))))) (xnil da_nil))))))))))))
 (dm_one (xsret (dm_lift (ds_ret (xpl (xc (.bl false) de_bl))))))
 (xsnil dm_nil)))
 (dm_one (xsif (dm_if (xplT (Dw.pt (xwand (dw_and (xtis (dt_notN (xv (dv 5)))) (dw_and1 (xtnot (dt_not (xtb (dt_val (xcall spX_call (de_call (ok__law_same T L 3) (hr.mono (by decide)) L.a__law_same.mg L.a__law_same.fn.kp L.a__law_same.bd (xcons (da_cons (xcall spX_call (de_call (ok_height T L) (hr.mono (by decide)) L.a_height.mg L.a_height.fn.kp L.a_height.bd (xcons (da_cons (xcall spX_call (de_call (ok__law_host T L) (hr.mono (by decide)) L.a__law_host.mg L.a__law_host.fn.kp L.a__law_host.bd (xcons (da_cons (xv (dv 6)) (xnil da_nil))))) (xnil da_nil))))) (xcons (da_cons (xbin ox_add (de_op do_add (xv (dv 5)) (xbin ox_mul (de_op do_mulT (xv (dv 3)) (xbin ox_add (de_op do_add (xv (dv 7)) (xc (.int 1) de_int))))))) (xnil da_nil))))))))))))))))
 (dm_one (xsret (dm_lift (ds_ret (xpl (xc (.bl false) de_bl))))))
 (xsnil dm_nil))))))))))))))))))
 (xsT1 (xsret (dm_lift (ds_ret (xpl (xc (.bl true) de_bl)))))))), rfl⟩
end
end TC
namespace TC
open PySem PySem.Spec PyProof.Rows L2 RZ
variable [Cl]
def isTrueT (t : Tr Pv) : Bool := match t with
  | .ret (.bl b) => b
  | _ => false
theorem isTrueT_of {t : Tr Pv} (h : isTrueT t = true) : t = .ret (.bl true) := by
  cases t with
  | ret p => cases p with
    | bl b => cases b with
      | true => rfl
      | false => cases h
    | _ => cases h
  | _ => cases h
theorem hand_ok : isTrueT (x__law_by_hand_right []) = true := by decide +kernel
end TC
namespace TC
open PySem PySem.Spec PyProof.Rows L2 RZ
variable [Cl]
abbrev tS (l : List Str) : Pv := .tup (l.map Pv.str)
theorem e_outside (row names : List Str) (h : row.length ≤ 16777216) : x_outside [tS row, tS names] = .ret (tS (row.filter fun x => !decide (x ∈ names))) := by
  unfold x_outside b_outside
  simp (disch := omega) [sz_le]
  rw [xLcL_map Pv.str (fun x => !decide (x ∈ names)) row fun z hz => ⟨_, rfl, by simp, fun _ => by simp⟩]
  simp
theorem e_forgotten (row : List Str) (x : Str) (h : row.length ≤ 16777216) : x_forgotten [tS row, .str x] = .ret (tS (row.filter fun y => !decide (y = x))) := by
  unfold x_forgotten b_forgotten
  have := e_outside row [x] h
  simp [tS] at this
  simp (disch := omega) [sz_le, this]
theorem e_touched (row : List Str) (x : Str) (h : row.length < 16777216) : x_touched [tS row, .str x] = .ret (tS (x :: row.filter fun y => !decide (y = x))) := by
  unfold x_touched b_touched
  have h1 := e_forgotten row x (by omega)
  have h2 : (row.filter fun y => !decide (y = x)).length ≤ row.length := List.length_filter_le _ _
  simp (disch := omega) [sz_le, h1]
theorem e_capped (row : List Str) (n : Int) (h : 0 ≤ n) : x_capped [tS row, .int n] = .ret (tS (row.take n.toNat)) := by
  unfold x_capped b_capped
  have e : cutD (row.map Pv.str) none (some n) = (row.take n.toNat).map Pv.str := by
    unfold cutD
    rw [HT.sIx_none, show n = ((n.toNat : Nat) : Int) by omega, HT.sIx_nat, Int.toNat_natCast, List.drop_zero, List.map_take, Nat.sub_zero]
    exact (List.take_eq_take_iff.mpr (by simp)).symm
  simp (disch := omega) [sz_le, gSl, e]
theorem e_rbs (s : Stp) (row : List Str) (h : row.length < 1000000) (hs : ∀ n, s = .cap n → 0 ≤ n) : x_row_behind_step [.str s.kind, s.what, tS row] = .ret (tS (s.go row)) := by
  cases s with
  | touch t =>
    have h1 := e_touched row t (by omega)
    unfold x_row_behind_step b_row_behind_step
    simp (disch := omega) [Stp.kind, Stp.what, sz_le, h1, Stp.go]
  | forget t =>
    have h1 := e_forgotten row t (by omega)
    unfold x_row_behind_step b_row_behind_step
    simp (disch := omega) [Stp.kind, Stp.what, sz_le, h1, Stp.go, ne_ft]
  | cap n =>
    have h1 := e_capped row n (hs n rfl)
    unfold x_row_behind_step b_row_behind_step
    simp (disch := omega) [Stp.kind, Stp.what, sz_le, h1, Stp.go, ne_ct, ne_cf]
theorem e_kind (s : Stp) : x_Step__d__kind [s.ob] = .ret (.str s.kind) := by unfold x_Step__d__kind b_Step__d__kind Stp.ob; simp
theorem e_what (s : Stp) : x_Step__d__what [s.ob] = .ret s.what := by unfold x_Step__d__what b_Step__d__what Stp.ob; simp
theorem sortS_ins {ns : List Str} {t : Str} (hs : SetS ns) (ht : t ∉ ns) : sortS (ns ++ [t]) = insS t ns := by
  refine leS_ext leS_sort ?_ ?_
  · exact List.Pairwise.imp (fun {a b} h => lt_asym h) (setS_ins hs)
  · refine sortS_perm.trans ?_
    refine (List.perm_ext_iff_of_nodup ?_ (setS_ins hs).nodup).mpr fun x => ?_
    · rw [List.nodup_append]
      refine ⟨hs.nodup, by simp, fun a ha b hb => ?_⟩
      rw [List.mem_singleton] at hb
      subst hb
      exact fun e => ht (e ▸ ha)
    · rw [mem_insS, List.mem_append, List.mem_singleton]
      exact ⟨fun q => q.elim .inr .inl, fun q => q.elim .inr .inl⟩
theorem e_withname (ns : List Str) (t : Str) (hs : SetS ns) (hl : ns.length < 63) : x_with_name [tS ns, .str t] = .ret (tS (insS t ns)) := by
  unfold x_with_name b_with_name
  by_cases h : t ∈ ns
  · simp [h, insS_mem hs h]
  · have e := gSortL_s (l := ns ++ [t])
    rw [sortS_ins hs h] at e
    simp at e
    simp (disch := omega) [h, sz_le, e, ok_dec]
theorem e_kindO (k w : Pv) : x_Step__d__kind [.obj 0 [k, w]] = .ret k := by unfold x_Step__d__kind b_Step__d__kind; simp
theorem e_whatO (k w : Pv) : x_Step__d__what [.obj 0 [k, w]] = .ret w := by unfold x_Step__d__what b_Step__d__what; simp
theorem told_loop (L : List Stp) (hL : ∀ s ∈ L, ∀ n, s = .cap n → 0 ≤ n) (hl : L.length ≤ 62) : ∃ o, xsForL (asgN XV.p 4) l_told_by_0 (L.map Stp.ob) [some (.p (rulT L)), some (.p (tS [])), some (.own []), some (.p (tS [])), none] =
    .ret (.nx [some (.p (rulT L)), some (.p (tS (nmS [] L))), some (.own ((capB [] [] L).map bnd)), some (.p (tS (goes L []))), o]) := by
  have key := forL_ret (f := asgN XV.p 4) (s := l_told_by_0) (c := Stp.ob) (xe := [some (.p (rulT L)), some (.p (tS [])), some (.own []), some (.p (tS [])), none]) L
    (fun A xe => ∃ o, xe = [some (.p (rulT L)), some (.p (tS (nmS [] A))), some (.own ((capB [] [] A).map bnd)), some (.p (tS (goes A []))), o]) ⟨none, rfl⟩
  have step : ∃ xe2, xsForL (asgN XV.p 4) l_told_by_0 (L.map Stp.ob) [some (.p (rulT L)), some (.p (tS [])), some (.own []), some (.p (tS [])), none] = .ret (.nx xe2) ∧ _ := key ?_
  · obtain ⟨xe, h1, o, h2⟩ := step
    exact ⟨o, by rw [h1, h2]⟩
  · rintro A s B xe e ⟨o, rfl⟩
    have e2 := congrArg List.length e
    simp at e2
    have hA := goes_len A []
    simp at hA
    have hn2 := nmS_len (L := A) (ns := [])
    have hc2 := capB_len (L := A) (ns := []) (row := [])
    simp at hn2
    have hr := e_rbs s (goes A []) (by omega) (hL s (by rw [e]; simp))
    have hg : goes (A ++ [s]) [] = s.go (goes A []) := by rw [goes_app]; rfl
    have hn : nmS [] (A ++ [s]) = nmS (nmS [] A) [s] := nmS_app
    have hb : capB [] [] (A ++ [s]) = capB [] [] A ++ capB (nmS [] A) (goes A []) [s] := capB_app
    have ss : SetS (nmS [] A) := setS_nm .nil
    have sl : (capB [] [] A).length < sizeLine := Nat.lt_of_le_of_lt (show _ ≤ 62 by omega) (by decide)
    refine ⟨_, _, rfl, ?_, some (.p s.ob), rfl⟩
    unfold l_told_by_0
    rw [hg, hn, hb]
    cases s with
    | touch t =>
      have hw := e_withname (nmS [] A) t ss (by omega)
      simp [Stp.kind, Stp.what] at hr
      simp [e_kindO, e_whatO, hr, hw, Stp.kind, Stp.what, Stp.ob, nmS, capB, ne_tc]
    | forget t =>
      have hw := e_withname (nmS [] A) t ss (by omega)
      simp [Stp.kind, Stp.what] at hr
      simp [e_kindO, e_whatO, hr, hw, Stp.kind, Stp.what, Stp.ob, nmS, capB, ne_fc]
    | cap n =>
      simp [Stp.kind, Stp.what] at hr
      simp (disch := omega) [e_kindO, e_whatO, hr, Stp.kind, Stp.what, Stp.ob, nmS, capB, sz_le, ok_dec sl, bnd]
theorem e_told (L : List Stp) (hL : ∀ s ∈ L, ∀ n, s = .cap n → 0 ≤ n) (hl : L.length ≤ 62) : x_told_by [rulT L] = .ret (.tup [tS (goes L []), tS (nmS [] L), .lst ((capB [] [] L).map bnd)]) := by
  obtain ⟨o, h⟩ := told_loop L hL hl
  simp [rulT, tS] at h
  unfold x_told_by b_told_by
  simp (disch := omega) [rulT, sz_le, h, tS]
theorem last_cases {α : Type} (l : List α) : l = [] ∨ ∃ a x, l = a ++ [x] := by
  rcases List.eq_nil_or_concat l with h | ⟨a, x, h⟩
  · exact .inl h
  · exact .inr ⟨a, x, by rw [h]; simp⟩
theorem bnd_eq (b : Bd) : bnd b = .tup [.tup (b.1.map Pv.str), .int b.2] := rfl
theorem tight_loop0 (bs : List Bd) (t : Pv) (hB : ∀ b ∈ bs, BdOk b) (hl : bs.length ≤ 900) : ∃ o2 o3, xsForL (asgT XV.p [2, 3]) l_tight_chain_0 (bs.map bnd) [some (.p t), some (.own []), none, none, none] =
    .ret (.nx [some (.p t), some (.own ((fallB bs).map bnd)), o2, o3, none]) := by
  have key := forL_ret (f := asgT XV.p [2, 3]) (s := l_tight_chain_0) (c := bnd) (xe := [some (.p t), some (.own []), none, none, none]) bs
    (fun A xe => ∃ o2 o3, xe = [some (.p t), some (.own ((A.foldl fallS []).map bnd)), o2, o3, none]) ⟨none, none, rfl⟩
  have step : ∃ xe2, xsForL (asgT XV.p [2, 3]) l_tight_chain_0 (bs.map bnd) [some (.p t), some (.own []), none, none, none] = .ret (.nx xe2) ∧ _ := key ?_
  · obtain ⟨xe, h1, o2, o3, h2⟩ := step
    exact ⟨o2, o3, by rw [h1, h2]; rfl⟩
  · rintro A b B xe e ⟨o2, o3, rfl⟩
    refine ⟨_, _, rfl, ?_, some (.p (.tup (b.1.map Pv.str))), some (.p (.int b.2)), rfl⟩
    have hf : (A ++ [b]).foldl fallS [] = fallS (A.foldl fallS []) b := by rw [List.foldl_append]; rfl
    have hao : ∀ c ∈ A.foldl fallS [], BdOk c := fun c hc => hB c (by
      rcases fall_sub (bs := A) (acc := []) c hc with h | h
      · cases h
      · rw [e]; exact List.mem_append.mpr (.inl h))
    have hal := fall_len (bs := A) (acc := [])
    have e2 := congrArg List.length e
    simp at e2 hal
    rw [hf]
    generalize A.foldl fallS [] = acc at hao hal
    have hlen : acc.length < sizeLine := Nat.lt_of_le_of_lt (show acc.length ≤ 900 by omega) (by decide)
    have hq := gEq_bnil (neg := false) hao
    unfold l_tight_chain_0
    rcases last_cases acc with rfl | ⟨a, c, rfl⟩
    · simp at hq
      simp (disch := omega) [hq, sz_le, fallS, ok_dec, sizeLine, bnd_eq]
    · simp [bnd_eq c] at hq hlen
      unfold fallS
      by_cases hlt : b.2 < c.2
      · simp (disch := omega) [hq, bnd_eq c, sz_le, hlt, ok_dec hlen, bnd_eq b]
      · simp (disch := omega) [hq, bnd_eq c, sz_le, hlt, bnd_eq b]
theorem tight_loop1 (bs : List Bd) (t u : Pv) (i2 i3 : Option XV) (hB : ∀ b ∈ bs, BdOk b) (hl : bs.length ≤ 900) : ∃ o2 o3, xsForL (asgT XV.p [2, 3]) l_tight_chain_1 (bs.map bnd) [some (.p t), some (.p u), i2, i3, some (.own [])] =
    .ret (.nx [some (.p t), some (.p u), o2, o3, some (.own ((bs.foldl keptS []).map bnd))]) := by
  have key := forL_ret (f := asgT XV.p [2, 3]) (s := l_tight_chain_1) (c := bnd) (xe := [some (.p t), some (.p u), i2, i3, some (.own [])]) bs
    (fun A xe => ∃ o2 o3, xe = [some (.p t), some (.p u), o2, o3, some (.own ((A.foldl keptS []).map bnd))]) ⟨_, _, rfl⟩
  have step : ∃ xe2, xsForL (asgT XV.p [2, 3]) l_tight_chain_1 (bs.map bnd) [some (.p t), some (.p u), i2, i3, some (.own [])] = .ret (.nx xe2) ∧ _ := key ?_
  · obtain ⟨xe, h1, o2, o3, h2⟩ := step
    exact ⟨o2, o3, by rw [h1, h2]⟩
  · rintro A b B xe e ⟨o2, o3, rfl⟩
    refine ⟨_, _, rfl, ?_, some (.p (.tup (b.1.map Pv.str))), some (.p (.int b.2)), rfl⟩
    have hf : (A ++ [b]).foldl keptS [] = keptS (A.foldl keptS []) b := by rw [List.foldl_append]; rfl
    have hao : ∀ c ∈ A.foldl keptS [], BdOk c := fun c hc => hB c (by
      rcases kept_sub (bs := A) (acc := []) c hc with h | h
      · cases h
      · rw [e]; exact List.mem_append.mpr (.inl h))
    have hal := kept_len (bs := A) (acc := [])
    have e2 := congrArg List.length e
    simp at e2 hal
    rw [hf]
    generalize A.foldl keptS [] = acc at hao hal
    have hlen : acc.length < sizeLine := Nat.lt_of_le_of_lt (show acc.length ≤ 900 by omega) (by decide)
    have hq := gEq_bnil (neg := false) hao
    unfold l_tight_chain_1
    rcases last_cases acc with rfl | ⟨a, c, rfl⟩
    · simp at hq
      simp (disch := omega) [hq, sz_le, keptS, ok_dec, sizeLine, bnd_eq]
    · simp [bnd_eq c] at hq hlen
      unfold keptS
      by_cases hlt : b.2 + (b.1.length : Int) < c.2 + (c.1.length : Int)
      · simp (disch := omega) [hq, bnd_eq c, sz_le, hlt, ok_dec hlen, bnd_eq b]
      · simp (disch := omega) [hq, bnd_eq c, sz_le, hlt, bnd_eq b]
theorem e_tight (bs : List Bd) (hB : ∀ b ∈ bs, BdOk b) (hl : bs.length ≤ 900) : x_tight_chain [.lst (bs.map bnd)] = .ret (.tup ((tightB bs).map bnd)) := by
  obtain ⟨o2, o3, h⟩ := tight_loop0 bs (.lst (bs.map bnd)) hB hl
  have hf : ∀ b ∈ (fallB bs).reverse, BdOk b := fun b hb => hB b ((fall_sub (bs := bs) (acc := []) b (List.mem_reverse.mp hb)).resolve_left (by simp))
  have hfl := fall_len (bs := bs) (acc := [])
  simp at hfl
  obtain ⟨p2, p3, h2⟩ := tight_loop1 (fallB bs).reverse (.lst (bs.map bnd)) (.lst ((fallB bs).map bnd)) (relS o2) (relS o3) hf (by rw [List.length_reverse]; unfold fallB; omega)
  rw [List.map_reverse] at h2
  unfold x_tight_chain b_tight_chain
  simp (disch := omega) [sz_le, h, h2, tightB]
theorem e_tight_t (bs : List Bd) (hB : ∀ b ∈ bs, BdOk b) (hl : bs.length ≤ 900) : x_tight_chain [.tup (bs.map bnd)] = .ret (.tup ((tightB bs).map bnd)) := by
  obtain ⟨o2, o3, h⟩ := tight_loop0 bs (.tup (bs.map bnd)) hB hl
  have hf : ∀ b ∈ (fallB bs).reverse, BdOk b := fun b hb => hB b ((fall_sub (bs := bs) (acc := []) b (List.mem_reverse.mp hb)).resolve_left (by simp))
  have hfl := fall_len (bs := bs) (acc := [])
  simp at hfl
  obtain ⟨p2, p3, h2⟩ := tight_loop1 (fallB bs).reverse (.tup (bs.map bnd)) (.lst ((fallB bs).map bnd)) (relS o2) (relS o3) hf (by rw [List.length_reverse]; unfold fallB; omega)
  rw [List.map_reverse] at h2
  unfold x_tight_chain b_tight_chain
  simp (disch := omega) [sz_le, h, h2, tightB]
/-- steps whose NAMEs are texts as they should be; caps from 1 -/
def Stp.okS : Stp → Prop
  | .touch t => PyData.strOk t = true
  | .forget t => PyData.strOk t = true
  | .cap n => 1 ≤ n
theorem capB_okS : ∀ {L : List Stp} {ns row : List Str}, (∀ s ∈ L, s.okS) → (∀ z ∈ ns, PyData.strOk z = true) → ∀ b ∈ capB ns row L, BdOk b
  | [], _, _, _, _, b, hb => by cases hb
  | .touch t :: L, ns, row, h, hn, b, hb => capB_okS (L := L) (fun s hs => h s (List.mem_cons_of_mem _ hs)) (fun z hz => by
      rcases mem_insS.mp hz with rfl | hz
      · exact h _ (List.mem_cons_self ..)
      · exact hn z hz) b hb
  | .forget t :: L, ns, row, h, hn, b, hb => capB_okS (L := L) (fun s hs => h s (List.mem_cons_of_mem _ hs)) (fun z hz => by
      rcases mem_insS.mp hz with rfl | hz
      · exact h _ (List.mem_cons_self ..)
      · exact hn z hz) b hb
  | .cap n :: L, ns, row, h, hn, b, hb => by
    rcases List.mem_cons.mp hb with rfl | hb
    · exact hn
    · exact capB_okS (L := L) (fun s hs => h s (List.mem_cons_of_mem _ hs)) hn b hb
theorem okS_cap {L : List Stp} (h : ∀ s ∈ L, s.okS) : ∀ s ∈ L, ∀ n, s = .cap n → 0 ≤ n := fun s hs n e => by
  have := h s hs
  subst e
  have : 1 ≤ n := this
  omega
theorem e_shape (L : List Stp) (hL : ∀ s ∈ L, s.okS) (hl : L.length ≤ 62) : x_shape_of [rulT L] = .ret (frm (shape L)) := by
  have ht := e_told L (okS_cap hL) hl
  have hB := capB_okS (ns := []) (row := []) hL nofun
  have hcl := capB_len (L := L) (ns := []) (row := [])
  have htt := e_tight (capB [] [] L) hB (by omega)
  have hgl := goes_len L []
  have hnl := nmS_len (L := L) (ns := [])
  simp at hgl hnl
  have e1 : xLcL (asgN (fun p => p) 4) xYes (xBin gLt (xBin gIx (xVar 4) (xC (.int 1))) (xC (.int 1))) [some (rulT L), some (tS (goes L [])), some (tS (nmS [] L)), some (.lst ((capB [] [] L).map bnd)), none, none] ((capB [] [] L).map bnd) = .ret (((capB [] [] L).map fun b => decide (b.2 < 1)).map Pv.bl) := by
    rw [List.map_map]
    exact xLcL_all (c := bnd) (fun b => .bl (decide (b.2 < 1))) _ fun b hb => ⟨_, rfl, rfl, by simp [bnd_eq]⟩
  have e2 : xLcL (asgN (fun p => p) 5) (xB (xBin (gIn true) (xVar 5) (xVar 1))) (xVar 5) [some (rulT L), some (tS (goes L [])), some (tS (nmS [] L)), some (.lst ((capB [] [] L).map bnd)), none, none] ((nmS [] L).map Pv.str) = .ret (((nmS [] L).filter fun x => !decide (x ∈ goes L [])).map Pv.str) :=
    xLcL_map Pv.str (fun x => !decide (x ∈ goes L [])) _ fun z hz => ⟨_, rfl, by simp, fun _ => by simp⟩
  unfold x_shape_of b_shape_of shape
  simp (disch := omega) [ht, sz_le]
  rw [e1, e2]
  simp only [Tr.bind, htt, gAny_b]
  rw [List.any_map]
  by_cases hz : ((capB [] [] L).any fun x => decide (x.2 < 1)) = true
  · simp [Function.comp_def, hz, frm, conB, vConB, bnd_eq, tS]
  · simp [Function.comp_def, hz, frm, tS]
end TC
namespace TC
open PySem PySem.Spec PyProof.Rows L2 RZ
variable [Cl]
theorem e_steps (t : Pv) : x_Rule__d__steps [.obj 1 [t]] = .ret t := by unfold x_Rule__d__steps b_Rule__d__steps; simp
theorem e_form (L : List Stp) (hL : ∀ s ∈ L, s.okS) (hl : L.length ≤ 62) : x_form_of [rul L] = .ret (frm (shape L)) := by
  have h := e_shape L hL hl
  unfold x_form_of b_form_of
  simp [rul, e_steps, h]
theorem notIn_nice {n : Nat} {p q r : Pv} {c : Prop} [Decidable c] (h : nice n p = true) (hn : n ≤ 59) (hq : nice n q = true) (hr : nice n r = true) (hc : (p = q ∨ p = r) ↔ c) : gNotInD p (.tup [q, r]) = .ret (.bl (!decide c)) := by
  have t := nice_tidy (nice_le h (show n ≤ 60 by omega))
  have t2 := nice_tidy (n := n + 1) (p := .tup [q, r]) (by unfold nice; simp [hq, hr])
  unfold gNotInD
  dsimp only
  rw [t.1, tidy_mono t2.1 (by omega)]
  have k0 := (tidy_shaped (nice_tidy h).1 (by omega)).1
  have kq := (tidy_shaped (nice_tidy hq).1 (by omega)).1
  have kr := (tidy_shaped (nice_tidy hr).1 (by omega)).1
  have eq1 : eqD q.D p.D = true ↔ p = q := (eqD_iff kq k0 (nice_tidy hq).2 (nice_tidy h).2).trans ⟨fun e => (PvD_inj e).symm, fun e => by rw [e]⟩
  have eq2 : eqD r.D p.D = true ↔ p = r := (eqD_iff kr k0 (nice_tidy hr).2 (nice_tidy h).2).trans ⟨fun e => (PvD_inj e).symm, fun e => by rw [e]⟩
  have e : ((PDs [q, r]).any fun z => eqD z p.D) = decide c := by
    rw [Bool.eq_iff_iff, decide_eq_true_eq, ← hc, ← eq1, ← eq2]
    simp [PDs]
  rw [e]; rfl
theorem e_bounded (F : Form) (hB : ∀ b ∈ F.bds, BdOk b) : x_is_bounded [frm F] = .ret (.bl (!decide (F.bds = [] ∨ F.bds = conB))) := by
  have e : (Pv.tup (F.bds.map bnd) = .tup [] ∨ Pv.tup (F.bds.map bnd) = vConB) ↔ (F.bds = [] ∨ F.bds = conB) := by
    have : vConB = .tup (conB.map bnd) := rfl
    rw [this, Pv.tup.injEq, Pv.tup.injEq]
    refine or_congr (by simp) ⟨bnds_inj, fun h => by rw [h]⟩
  have h := notIn_nice (n := 3) (p := .tup (F.bds.map bnd)) (q := .tup []) (r := vConB) (nice_bnds hB).1 (by decide) rfl rfl e
  unfold x_is_bounded b_is_bounded
  simp (disch := omega) [frm, h, sz_le]
def xeHi : XE := xBin gAdd (xVar 5) (xCall gMax2 (xCons (xC (.int 0)) (xCons (xBin gSub (xCall gLen (xCons (xVar 4) xNil)) (xVar 3)) xNil)))
def xeH : XE := xCall gMin1 (xCons (xLc (xItV 0) (asgT (fun p => p) [4, 5]) xYes xeHi [4, 5]) xNil)
theorem hof1 {bs : List Bd} {many k : Nat} : xLcL (asgT (fun p => p) [4, 5]) xYes xeHi [some (.tup (bs.map bnd)), some (.int many), none, some (.int k), none, none] (bs.map bnd) = .ret ((bs.map (redZ k)).map Pv.int) := by
  rw [List.map_map]
  exact xLcL_all (c := bnd) (fun b => .int (redZ k b)) _ fun b hb => ⟨_, rfl, rfl, by simp [redZ, xeHi]⟩
theorem hof2 {bs : List Bd} (hb : bs ≠ []) (hl : bs.length ≤ 1000) {many k : Nat} : xeH [some (.tup (bs.map bnd)), some (.int many), none, some (.int k), none, none] = .ret (.int (minI (bs.map (redZ k)))) := by
  have h0 : bs.map (redZ k) ≠ [] := by simpa using hb
  have h1 := hof1 (bs := bs) (many := many) (k := k)
  have h2 := gMin1_i h0
  simp at h1 h2
  simp (disch := omega) [sz_le, h1, h2, xeH]
theorem hof3 {bs : List Bd} (hb : bs ≠ []) (hl : bs.length ≤ 1000) {many : Nat} : xLcL (asgN (fun p => p) 3) xYes xeH [some (.tup (bs.map bnd)), some (.int many), none, none, none, none] ((List.range (many + 1)).map fun (i : Nat) => Pv.int (i : Int)) = .ret (((List.range (many + 1)).map fun k => minI (bs.map (redZ k))).map Pv.int) := by
  rw [List.map_map]
  exact xLcL_all (c := fun (k : Nat) => Pv.int (k : Int)) (fun k => .int (minI (bs.map (redZ k)))) _ fun k hk => ⟨_, rfl, rfl, hof2 hb hl⟩
theorem hof4 {many : Nat} (hm : many ≤ 200) : (0 : Int) ≤ (many : Int) + 1 ∧ (many : Int) + 1 < 4611686018427387904 := by omega
theorem hof5 {bs : List Bd} {many : Nat} (hm : many ≤ 200) : xItR (xBin gAdd (xVar 1) (xC (.int 1))) [some (.tup (bs.map bnd)), some (.int many), none, none, none, none] = .ret ((List.range (many + 1)).map fun (i : Nat) => Pv.int (i : Int)) := by
  have e3 : ((many : Int) + 1).toNat = many + 1 := by omega
  rw [xItR_r, xBin_s, xVar_1, Tr.bind_ret, xC_s, Tr.bind_ret, gAdd_i, Tr.bind_ret, rngP_i (hof4 hm), e3, natsP_eq]
theorem hof6 {bs : List Bd} (hb : bs ≠ []) (hl : bs.length ≤ 1000) {many : Nat} (hm : many ≤ 200) : xLc (xItR (xBin gAdd (xVar 1) (xC (.int 1)))) (asgN (fun p => p) 3) xYes xeH [3] [some (.tup (bs.map bnd)), some (.int many), none, none, none, none] = .ret (.lst (((List.range (many + 1)).map fun k => minI (bs.map (redZ k))).map Pv.int)) := by
  have e2 := hof3 hb hl (many := many)
  rw [xLc_s, hof5 hm, Tr.bind_ret, List.length_map, List.length_range, sz_le (by omega)]
  show ((xLcL (asgN (fun p => p) 3) xYes xeH [some (.tup (bs.map bnd)), some (.int many), none, none, none, none] _).bind _) = _
  rw [e2]
  rfl
theorem e_hof (bs : List Bd) (hb : bs ≠ []) (hl : bs.length ≤ 1000) (many : Nat) (hm : many ≤ 200) : x_height_of [.tup (bs.map bnd), .int many] = .ret (.int (hgtB bs many)) := by
  have e5 := gSum_i (l := (List.range (many + 1)).map fun k => minI (bs.map (redZ k)))
  have e6 : x_height_of = xFn 6 2 (xsSeq (xsSet 2 (pl (xLc (xItR (xBin gAdd (xVar 1) (xC (.int 1)))) (asgN (fun p => p) 3) xYes xeH [3])))
 (xsRet (pl (xBin gSub (xCall gSum (xCons (xVar 2) xNil)) (xCall gLen (xCons (xVar 2) xNil)))))) := rfl
  have e7 := hof6 hb hl hm
  simp [-xLc_s] at e5 e7
  rw [e6]
  simp [e5, e7, hgtB, -xLc_s]
theorem e_names (F : Form) (hl : F.front.length + F.gone.length ≤ 62) : ∃ l : List Str, x_names_of [frm F] = .ret (tS l) ∧ l.length = F.front.length + F.gone.length := by
  refine ⟨sortS (F.front ++ F.gone), ?_, by rw [sortS_perm.length_eq, List.length_append]⟩
  have e := gSortL_s (l := F.front ++ F.gone)
  simp at e
  unfold x_names_of b_names_of
  simp (disch := omega) [frm, sz_le, e, ok_dec, tS]
theorem shape_bok {L : List Stp} (hL : ∀ s ∈ L, s.okS) : ∀ b ∈ (shape L).bds, BdOk b := by
  have hB := capB_okS (ns := []) (row := []) hL nofun
  intro b hb
  unfold shape at hb
  dsimp only at hb
  split at hb
  · have : b = ([], 0) := by simpa [conB] using hb
    subst this
    exact nofun
  · have h := List.mem_reverse.mp hb
    rcases kept_sub b h with h | h
    · cases h
    · rcases fall_sub b (List.mem_reverse.mp h) with h | h
      · cases h
      · exact hB b h
theorem e_height (L : List Stp) (hL : ∀ s ∈ L, s.okS) (hl : L.length ≤ 62) : x_height [rul L] = .ret (oP (hgtL L)) := by
  have h1 := e_form L hL hl
  have h2 := e_bounded (shape L) (shape_bok hL)
  obtain ⟨l, h3, h4⟩ := e_names (shape L) (names_few hl)
  have nf := names_few hl
  have bf := bds_few hl
  rw [← hgt_law]
  unfold x_height b_height hgt
  by_cases hc : (shape L).bds = [] ∨ (shape L).bds = conB
  · simp [h1, h2, hc, oP]
  · have h5 := e_hof (shape L).bds (fun e => hc (.inl e)) bf ((shape L).front.length + (shape L).gone.length) (by omega)
    rw [← h4] at h5
    have e0 : gIx (frm (shape L)) (.int 2) = .ret (.tup ((shape L).bds.map bnd)) := by unfold frm; simp
    simp [h1, h2, h3, h5, hc, oP, e0]
    simp [h4]
end TC
namespace TC
open PySem PySem.Spec PyProof.Rows L2 RZ
variable [Cl]
def matP (L : List Stp) : Pv := .lst (L.map Stp.pr)
def rowsX (L : List Stp) : Option XV := if isCon L = true then some (.p .non) else some (.own ((capB [] [] L).map bnd))
theorem isCon_snoc (A : List Stp) (s : Stp) : isCon (A ++ [s]) = (isCon A || (capB (nmS [] A) (goes A []) [s]).any fun x => decide (x.2 < 1)) := by
  unfold isCon
  rw [capB_app, List.any_append]
theorem known_loop (L : List Stp) (hL : ∀ s ∈ L, s.okS) (hl : L.length ≤ 62) : ∃ o4 o5, xsForL (asgT XV.p [4, 5]) l__law_known_0 (L.map Stp.pr) [some (.p (matP L)), some (.p (tS [])), some (.p (tS [])), some (.own []), none, none, none, none] =
    .ret (.nx [some (.p (matP L)), some (.p (tS (goes L []))), some (.p (tS (nmS [] L))), rowsX L, o4, o5, none, none]) := by
  have key := forL_ret (f := asgT XV.p [4, 5]) (s := l__law_known_0) (c := Stp.pr) (xe := [some (.p (matP L)), some (.p (tS [])), some (.p (tS [])), some (.own []), none, none, none, none]) L
    (fun A xe => ∃ o4 o5, xe = [some (.p (matP L)), some (.p (tS (goes A []))), some (.p (tS (nmS [] A))), rowsX A, o4, o5, none, none]) ⟨none, none, rfl⟩
  have step : ∃ xe2, xsForL (asgT XV.p [4, 5]) l__law_known_0 (L.map Stp.pr) [some (.p (matP L)), some (.p (tS [])), some (.p (tS [])), some (.own []), none, none, none, none] = .ret (.nx xe2) ∧ _ := key ?_
  · obtain ⟨xe, h1, o4, o5, h2⟩ := step
    exact ⟨o4, o5, by rw [h1, h2]⟩
  · rintro A s B xe e ⟨o4, o5, rfl⟩
    have e2 := congrArg List.length e
    simp at e2
    have hA := goes_len A []
    simp at hA
    have hn2 := nmS_len (L := A) (ns := [])
    have hc2 := capB_len (L := A) (ns := []) (row := [])
    simp at hn2
    have hg : goes (A ++ [s]) [] = s.go (goes A []) := by rw [goes_app]; rfl
    have hn : nmS [] (A ++ [s]) = nmS (nmS [] A) [s] := nmS_app
    have hb : capB [] [] (A ++ [s]) = capB [] [] A ++ capB (nmS [] A) (goes A []) [s] := capB_app
    have ss : SetS (nmS [] A) := setS_nm .nil
    have sl : (capB [] [] A).length < sizeLine := Nat.lt_of_le_of_lt (show _ ≤ 62 by omega) (by decide)
    have hs := hL s (by rw [e]; simp)
    have hic := isCon_snoc A s
    refine ⟨_, _, rfl, ?_, some (.p (.str s.kind)), some (.p s.what), rfl⟩
    unfold l__law_known_0
    rw [hg, hn]
    cases s with
    | touch t =>
      have q : rowsX (A ++ [.touch t]) = rowsX A := by unfold rowsX; rw [hic, hb]; simp [capB]
      have w := gSortSetT_s (l := nmS [] A ++ [t])
      rw [gSetIns ss] at w
      simp at w
      have hfl : ((goes A []).filter fun x => !decide (x = t)).length ≤ (goes A []).length := List.length_filter_le _ _
      have e1 := xLcL_map (pe := vis [some (.p (matP L)), some (.p (tS (goes A []))), some (.p (tS (nmS [] A))), rowsX A, some (.p (.str "touch")), some (.p (.str t)), none, none]) (f := asgN (fun p => p) 7) (t := xB (xBin (gEq true) (xVar 7) (xVar 5))) (a := xVar 7) (c := Pv.str) Pv.str (fun x => !decide (x = t)) (goes A []) (fun z hz => ⟨_, rfl, by simp, fun _ => by simp⟩)
      simp at e1
      rw [q]
      simp (disch := omega) [Stp.kind, Stp.what, sz_le, ne_tc, e1, w, ok_dec, Stp.go, nmS, tS]
    | forget t =>
      have q : rowsX (A ++ [.forget t]) = rowsX A := by unfold rowsX; rw [hic, hb]; simp [capB]
      have w := gSortSetT_s (l := nmS [] A ++ [t])
      rw [gSetIns ss] at w
      simp at w
      have hfl : ((goes A []).filter fun x => !decide (x = t)).length ≤ (goes A []).length := List.length_filter_le _ _
      have e1 := xLcL_map (pe := vis [some (.p (matP L)), some (.p (tS (goes A []))), some (.p (tS (nmS [] A))), rowsX A, some (.p (.str "forget")), some (.p (.str t)), none, none]) (f := asgN (fun p => p) 7) (t := xB (xBin (gEq true) (xVar 7) (xVar 5))) (a := xVar 7) (c := Pv.str) Pv.str (fun x => !decide (x = t)) (goes A []) (fun z hz => ⟨_, rfl, by simp, fun _ => by simp⟩)
      simp at e1
      rw [q]
      simp (disch := omega) [Stp.kind, Stp.what, sz_le, ne_fc, ne_ft, e1, w, ok_dec, Stp.go, nmS, tS]
    | cap n =>
      have hn1 : 1 ≤ n := hs
      have ec : cutD ((goes A []).map Pv.str) none (some n) = ((goes A []).take n.toNat).map Pv.str := by
        unfold cutD
        rw [HT.sIx_none, show n = ((n.toNat : Nat) : Int) by omega, HT.sIx_nat, Int.toNat_natCast, List.drop_zero, List.map_take, Nat.sub_zero]
        exact (List.take_eq_take_iff.mpr (by simp)).symm
      by_cases hc : isCon A = true
      · have q : rowsX (A ++ [.cap n]) = some (.p .non) := by unfold rowsX; rw [hic, hc]; rfl
        have q0 : rowsX A = some (.p .non) := by unfold rowsX; rw [hc]; rfl
        rw [q, q0]
        simp (disch := omega) [Stp.kind, Stp.what, sz_le, Stp.go, nmS, tS, gSl, ec]
      · have hc0 : isCon A = false := by simpa using hc
        have q0 : rowsX A = some (.own ((capB [] [] A).map bnd)) := by unfold rowsX; rw [hc0]; rfl
        by_cases hle : n ≤ ((goes A []).length : Int)
        · have q : rowsX (A ++ [.cap n]) = some (.p .non) := by
            unfold rowsX; rw [hic, hc0]; simp [capB]; omega
          rw [q, q0]
          simp (disch := omega) [Stp.kind, Stp.what, sz_le, Stp.go, nmS, tS, gSl, ec, hle]
        · have q : rowsX (A ++ [.cap n]) = some (.own ((capB [] [] A ++ [(nmS [] A, n - ((goes A []).length : Int))]).map bnd)) := by
            unfold rowsX; rw [hic, hc0, hb]; simp [capB]; omega
          have ht : (goes A []).take n.toNat = goes A [] := List.take_of_length_le (by omega)
          rw [q, q0]
          simp (disch := omega) [Stp.kind, Stp.what, sz_le, Stp.go, nmS, tS, hle, ok_dec sl, ht, bnd]
end TC
namespace TC
open PySem PySem.Spec PyProof.Rows L2 RZ
variable [Cl]
def rowsP (L : List Stp) : Pv := if isCon L = true then .non else .lst ((capB [] [] L).map bnd)
theorem e_known (L : List Stp) (hL : ∀ s ∈ L, s.okS) (hl : L.length ≤ 62) : ∃ aw, x__law_known [matP L] = .ret (.tup [tS (goes L []), aw, rowsP L]) := by
  obtain ⟨o4, o5, h⟩ := known_loop L hL hl
  have hn2 := nmS_len (L := L) (ns := [])
  simp at hn2
  simp [matP, tS] at h
  unfold x__law_known b__law_known
  by_cases hc : isCon L = true
  · have q : rowsX L = some (.p .non) := by unfold rowsX; rw [hc]; rfl
    have q2 : rowsP L = .non := by unfold rowsP; rw [hc]; rfl
    rw [q] at h
    refine ⟨.tup [], ?_⟩
    simp (disch := omega) [matP, h, sz_le, tS, q2]
  · have hc0 : isCon L = false := by simpa using hc
    have q : rowsX L = some (.own ((capB [] [] L).map bnd)) := by unfold rowsX; rw [hc0]; rfl
    have q2 : rowsP L = .lst ((capB [] [] L).map bnd) := by unfold rowsP; rw [hc0]; rfl
    have e1 := fun (o4 o5 : Option Pv) => xLcL_map (pe := [some (.lst (L.map Stp.pr)), some (tS (goes L [])), some (tS (nmS [] L)), some (.lst ((capB [] [] L).map bnd)), o4, o5, none, none]) (f := asgN (fun p => p) 7) (t := xB (xBin (gIn true) (xVar 7) (xVar 1))) (a := xVar 7) (c := Pv.str) Pv.str (fun x => !decide (x ∈ goes L [])) (nmS [] L) (fun z hz => ⟨_, rfl, by simp, fun _ => by simp⟩)
    simp [tS] at e1
    rw [q] at h
    refine ⟨tS ((nmS [] L).filter fun x => !decide (x ∈ goes L [])), ?_⟩
    simp (disch := omega) [matP, h, sz_le, tS, q2, e1]
theorem e_apart (a b : List Str) (h : a.length ≤ 100) : x__law_apart [tS a, tS b] = .ret (tS (a.filter fun x => !decide (x ∈ b))) := by
  have e1 := xLcL_map (pe := [some (tS a), some (tS b), none]) (f := asgN (fun p => p) 2) (t := xB (xBin (gIn true) (xVar 2) (xVar 1))) (a := xVar 2) (c := Pv.str) Pv.str (fun x => !decide (x ∈ b)) a (fun z hz => ⟨_, rfl, by simp, fun _ => by simp⟩)
  simp [tS] at e1
  unfold x__law_apart b__law_apart
  simp (disch := omega) [sz_le, tS, e1]
theorem e_apartL (a b : List Str) (h : a.length ≤ 100) : x__law_apart [tS a, .lst (b.map Pv.str)] = .ret (tS (a.filter fun x => !decide (x ∈ b))) := by
  have e1 := xLcL_map (pe := [some (tS a), some (.lst (b.map Pv.str)), none]) (f := asgN (fun p => p) 2) (t := xB (xBin (gIn true) (xVar 2) (xVar 1))) (a := xVar 2) (c := Pv.str) Pv.str (fun x => !decide (x ∈ b)) a (fun z hz => ⟨_, rfl, by simp, fun _ => by simp⟩)
  simp [tS] at e1
  unfold x__law_apart b__law_apart
  simp (disch := omega) [sz_le, tS, e1]
theorem capB_nl : ∀ {L : List Stp} {ns row : List Str} {b : Bd}, b ∈ capB ns row L → b.1.length ≤ ns.length + L.length
  | [], _, _, _, h => by cases h
  | .touch t :: L, ns, row, b, h => by
    have := capB_nl (L := L) h
    have h2 := nmS_len (L := [Stp.touch t]) (ns := ns)
    have h3 : nmS ns [Stp.touch t] = insS t ns := rfl
    rw [h3] at h2
    simp at h2 ⊢
    omega
  | .forget t :: L, ns, row, b, h => by
    have := capB_nl (L := L) h
    have h2 := nmS_len (L := [Stp.forget t]) (ns := ns)
    have h3 : nmS ns [Stp.forget t] = insS t ns := rfl
    rw [h3] at h2
    simp at h2 ⊢
    omega
  | .cap n :: L, ns, row, b, h => by
    rcases List.mem_cons.mp h with rfl | h
    · simp
    · have := capB_nl (L := L) h
      simp at this ⊢
      omega
theorem e_reach (bs : List Bd) (hb : bs ≠ []) (hB : ∀ b ∈ bs, BdOk b) (hn : ∀ b ∈ bs, b.1.length ≤ 100) (hl : bs.length ≤ 1000) (T : List Str) : x__law_reach [.lst (bs.map bnd), .lst (T.map Pv.str)] = .ret (.int (minI (bs.map (redL T)))) := by
  have e1 := xLcL_all (pe := [some (.lst (bs.map bnd)), some (.lst (T.map Pv.str)), none]) (f := asgN (fun p => p) 2) (t := xYes) (a := xBin gAdd (xBin gIx (xVar 2) (xC (.int 1))) (xCall gLen (xCons (xCall x__law_apart (xCons (xBin gIx (xVar 2) (xC (.int 0))) (xCons (xVar 1) xNil))) xNil))) (c := bnd) (fun b => Pv.int (redL T b)) bs (fun b hb => ⟨_, rfl, rfl, by
    have h := e_apartL b.1 T (hn b hb)
    simp [tS] at h
    simp [bnd, h, redL, lack_def]⟩)
  have h0 : bs.map (redL T) ≠ [] := by simpa using hb
  have h2 := gMin1_i h0
  have h3 := gEq_bnil (neg := true) hB
  simp [Function.comp_def] at h2 h3 e1
  unfold x__law_reach b__law_reach
  simp (disch := omega) [sz_le, e1, h2, h3, hb]
theorem height_loop (L : List Stp) (hL : ∀ s ∈ L, s.okS) (hl : L.length ≤ 62) (r : Pv) : ∃ o4 o5, xsForL (asgT XV.p [3, 4]) l__law_height_0 (L.map Stp.pr) [some (.p (matP L)), some (.p r), some (.own []), none, none, none] =
    .ret (.nx [some (.p (matP L)), some (.p r), some (.own ((ordT [] L).map Pv.str)), o4, o5, none]) := by
  have key := forL_ret (f := asgT XV.p [3, 4]) (s := l__law_height_0) (c := Stp.pr) (xe := [some (.p (matP L)), some (.p r), some (.own []), none, none, none]) L
    (fun A xe => ∃ o4 o5, xe = [some (.p (matP L)), some (.p r), some (.own ((ordT [] A).map Pv.str)), o4, o5, none]) ⟨none, none, rfl⟩
  have step : ∃ xe2, xsForL (asgT XV.p [3, 4]) l__law_height_0 (L.map Stp.pr) [some (.p (matP L)), some (.p r), some (.own []), none, none, none] = .ret (.nx xe2) ∧ _ := key ?_
  · obtain ⟨xe, h1, o4, o5, h2⟩ := step
    exact ⟨o4, o5, by rw [h1, h2]⟩
  · rintro A s B xe e ⟨o4, o5, rfl⟩
    have e2 := congrArg List.length e
    simp at e2
    have hA := ordT_len (L := A) (acc := [])
    simp at hA
    have sl : (ordT [] A).length < sizeLine := Nat.lt_of_le_of_lt (show _ ≤ 62 by omega) (by decide)
    refine ⟨_, _, rfl, ?_, some (.p (.str s.kind)), some (.p s.what), rfl⟩
    unfold l__law_height_0
    have ho : ordT [] (A ++ [s]) = ordT (ordT [] A) [s] := ordT_app
    rw [ho]
    cases s with
    | touch t =>
      by_cases ht : t ∈ ordT [] A
      · simp [Stp.kind, Stp.what, ne_tc, ordT, ht]
      · simp [Stp.kind, Stp.what, ne_tc, ordT, ht, ok_dec sl]
    | forget t =>
      by_cases ht : t ∈ ordT [] A
      · simp [Stp.kind, Stp.what, ne_fc, ordT, ht]
      · simp [Stp.kind, Stp.what, ne_fc, ordT, ht, ok_dec sl]
    | cap n => simp [Stp.kind, Stp.what, ordT]
end TC
namespace TC
open PySem PySem.Spec PyProof.Rows L2 RZ
variable [Cl]
theorem cutD_take {l : List Pv} (k : Nat) : cutD l none (some (k : Int)) = l.take k := by
  unfold cutD
  rw [HT.sIx_none, HT.sIx_nat, List.drop_zero, Nat.sub_zero]
  exact (List.take_eq_take_iff.mpr (by simp))
def xeL : XE := xBin gSub (xCall x__law_reach (xCons (xVar 1) (xCons (xSl (xVar 2) xNo (xSo (xVar 5))) xNil))) (xC (.int 1))
theorem lh2 {bs : List Bd} (hb : bs ≠ []) (hB : ∀ b ∈ bs, BdOk b) (hn : ∀ b ∈ bs, b.1.length ≤ 100) (hl : bs.length ≤ 1000) {T : List Str} {a c d : Option Pv} {k : Nat} : xeL [a, some (.lst (bs.map bnd)), some (.lst (T.map Pv.str)), c, d, some (.int (k : Int))] = .ret (.int (minI (bs.map (redL (T.take k))) - 1)) := by
  have h1 := e_reach bs hb hB hn hl (T.take k)
  rw [List.map_take] at h1
  simp (disch := omega) [xeL, gSl, cutD_take, h1]
theorem lh3 {bs : List Bd} (hb : bs ≠ []) (hB : ∀ b ∈ bs, BdOk b) (hn : ∀ b ∈ bs, b.1.length ≤ 100) (hl : bs.length ≤ 1000) {T : List Str} {a c d : Option Pv} {n : Nat} : xLcL (asgN (fun p => p) 5) xYes xeL [a, some (.lst (bs.map bnd)), some (.lst (T.map Pv.str)), c, d, none] ((List.range n).map fun (i : Nat) => Pv.int (i : Int)) = .ret (((List.range n).map fun k => minI (bs.map (redL (T.take k))) - 1).map Pv.int) := by
  rw [List.map_map]
  exact xLcL_all (c := fun (k : Nat) => Pv.int (k : Int)) (fun k => .int (minI (bs.map (redL (T.take k))) - 1)) _ fun k hk => ⟨_, rfl, rfl, lh2 hb hB hn hl⟩
theorem lh5 {T : List Str} (hT : T.length ≤ 62) {a b c d : Option Pv} : xItR (xBin gAdd (xCall gLen (xCons (xVar 2) xNil)) (xC (.int 1))) [a, b, some (.lst (T.map Pv.str)), c, d, none] = .ret ((List.range (T.length + 1)).map fun (i : Nat) => Pv.int (i : Int)) := by
  have e3 : ((T.length : Int) + 1).toNat = T.length + 1 := by omega
  have e1 : (xBin gAdd (xCall gLen (xCons (xVar 2) xNil)) (xC (.int 1))) [a, b, some (.lst (T.map Pv.str)), c, d, none] = .ret (.int ((T.length : Int) + 1)) := by simp
  rw [xItR_r, e1, Tr.bind_ret, rngP_i (by omega), e3, natsP_eq]
theorem lh6 {bs : List Bd} (hb : bs ≠ []) (hB : ∀ b ∈ bs, BdOk b) (hn : ∀ b ∈ bs, b.1.length ≤ 100) (hl : bs.length ≤ 1000) {T : List Str} (hT : T.length ≤ 62) {a c d : Option Pv} : xLc (xItR (xBin gAdd (xCall gLen (xCons (xVar 2) xNil)) (xC (.int 1)))) (asgN (fun p => p) 5) xYes xeL [5] [a, some (.lst (bs.map bnd)), some (.lst (T.map Pv.str)), c, d, none] = .ret (.lst (((List.range (T.length + 1)).map fun k => minI (bs.map (redL (T.take k))) - 1).map Pv.int)) := by
  have e2 := lh3 hb hB hn hl (T := T) (a := a) (c := c) (d := d) (n := T.length + 1)
  rw [xLc_s, lh5 hT, Tr.bind_ret, List.length_map, List.length_range, sz_le (by omega)]
  show ((xLcL (asgN (fun p => p) 5) xYes xeL [a, some (.lst (bs.map bnd)), some (.lst (T.map Pv.str)), c, d, none] _).bind _) = _
  rw [e2]
  rfl
theorem e_lheight (L : List Stp) (hL : ∀ s ∈ L, s.okS) (hl : L.length ≤ 62) : x__law_height [matP L] = .ret (oP (hgtL L)) := by
  obtain ⟨aw, h1⟩ := e_known L hL hl
  obtain ⟨o4, o5, h2⟩ := height_loop L hL hl (rowsP L)
  have hA := ordT_len (L := L) (acc := [])
  have hc2 := capB_len (L := L) (ns := []) (row := [])
  have e6 : x__law_height = xFn 6 1 (xsPar2B 1 2 (pl (xBin gIx (xCall x__law_known (xCons (xVar 0) xNil)) (xC (.int 2))))
   (xsSeq (xsFor (pl (xItV 0)) (asgT XV.p [3, 4]) l__law_height_0)
   (xsRel (xsRet (pl (xIf (xTru (xVar 1)) (xCall gSum (xCons (xLc (xItR (xBin gAdd (xCall gLen (xCons (xVar 2) xNil)) (xC (.int 1)))) (asgN (fun p => p) 5) xYes xeL [5]) xNil)) (xC .non))))))) := rfl
  simp at hA
  simp [matP] at h1 h2
  rw [e6]
  unfold hgtL
  by_cases hc : isCon L = true
  · have q2 : rowsP L = .non := by unfold rowsP; rw [hc]; rfl
    rw [q2] at h1 h2
    simp [matP, h1, h2, hc, oP]
  · have hc0 : isCon L = false := by simpa using hc
    have q2 : rowsP L = .lst ((capB [] [] L).map bnd) := by unfold rowsP; rw [hc0]; rfl
    rw [q2] at h1 h2
    by_cases hb : capB [] [] L = []
    · simp [hb] at h1 h2
      simp [matP, h1, h2, hb, hc0, oP]
    · have e7 := fun {a c d : Option Pv} => lh6 hb (capB_okS hL nofun) (fun b hm => by have := capB_nl hm; simp at this; omega) (by omega) (T := ordT [] L) (by omega) (a := a) (c := c) (d := d)
      have e5 := gSum_i (l := (List.range ((ordT [] L).length + 1)).map fun k => minI ((capB [] [] L).map (redL ((ordT [] L).take k))) - 1)
      simp [-xLc_s] at e5 e7
      simp [-xLc_s, matP, h1, h2, hb, hc0, oP, e7, e5]
end TC
namespace TC
open PySem PySem.Spec PyProof.Rows L2 RZ
variable [Cl]
theorem isi_of {a : String} {p : Pv} {b : Bool} (h : noUrn p.D = true) (e : isD p.D a = b) : gIsi a p = .ret (.bl b) := by unfold gIsi; rw [h, e]; rfl
theorem isi2_of {a c : String} {p : Pv} {b : Bool} (h : noUrn p.D = true) (e : (isD p.D a || isD p.D c) = b) : gIsi2 a c p = .ret (.bl b) := by unfold gIsi2; rw [h, e]; rfl
@[simp] theorem isi_ii {i : Int} : gIsi "int" (.int i) = .ret (.bl true) := isi_of (by rw [Pv.D]; rfl) (by rw [Pv.D]; simp only [tyD, isD]; decide +kernel)
@[simp] theorem isi_bi {i : Int} : gIsi "bool" (.int i) = .ret (.bl false) := isi_of (by rw [Pv.D]; rfl) (by rw [Pv.D]; simp only [tyD, isD]; decide +kernel)
@[simp] theorem isi_lti {i : Int} : gIsi2 "list" "tuple" (.int i) = .ret (.bl false) := isi2_of (by rw [Pv.D]; rfl) (by rw [Pv.D]; simp only [tyD, isD]; decide +kernel)
@[simp] theorem isi_ltn : gIsi2 "list" "tuple" .non = .ret (.bl false) := isi2_of (by rw [Pv.D]; rfl) (by rw [Pv.D]; simp only [tyD, isD]; decide +kernel)
@[simp] theorem isi_bsi {i : Int} : gIsi2 "bool" "str" (.int i) = .ret (.bl false) := isi2_of (by rw [Pv.D]; rfl) (by rw [Pv.D]; simp only [tyD, isD]; decide +kernel)
@[simp] theorem isi_bss {i : Str} : gIsi2 "bool" "str" (.str i) = .ret (.bl true) := isi2_of (by rw [Pv.D]; rfl) (by rw [Pv.D]; simp only [tyD, isD]; decide +kernel)
@[simp] theorem isi_ltl {l : List Pv} (h : noUrn (Pv.lst l).D = true) : gIsi2 "list" "tuple" (.lst l) = .ret (.bl true) := isi2_of h (by rw [Pv.D]; simp only [tyD, isD]; decide +kernel)
@[simp] theorem isi_ll {l : List Pv} (h : noUrn (Pv.lst l).D = true) : gIsi "list" (.lst l) = .ret (.bl true) := isi_of h (by rw [Pv.D]; simp only [tyD, isD]; decide +kernel)
@[simp] theorem isi_tl {l : List Pv} (h : noUrn (Pv.lst l).D = true) : gIsi "tuple" (.lst l) = .ret (.bl false) := isi_of h (by rw [Pv.D]; simp only [tyD, isD]; decide +kernel)
@[simp] theorem nu_l {l : List Pv} : noUrn (Pv.lst l).D = true := by rw [Pv.D]; rfl
theorem xsIf_t {tt : XXT} {s s2 : XS} {xe : XEnv} (h : tt xe = .ret true) : xsIf tt s s2 xe = s xe := by unfold xsIf; rw [h]; rfl
theorem xsIf_f {tt : XXT} {s s2 : XS} {xe : XEnv} (h : tt xe = .ret false) : xsIf tt s s2 xe = s2 xe := by unfold xsIf; rw [h]; rfl
@[simp] theorem in_tf : gIn false (.str "touch") (.tup [.str "touch", .str "forget"]) = .ret (.bl true) := isTrueT_of (by decide +kernel)
@[simp] theorem in_ff : gIn false (.str "forget") (.tup [.str "touch", .str "forget"]) = .ret (.bl true) := isTrueT_of (by decide +kernel)
def nmOk (t : Str) : Prop := x_is_name [.str t] = .ret (.bl true)
def Stp.okN : Stp → Prop
  | .touch t => nmOk t
  | .forget t => nmOk t
  | .cap n => 1 ≤ n
theorem e_isstep (s : Stp) (h : s.okN) : x_is_step [.str s.kind, s.what] = .ret (.bl true) := by
  unfold x_is_step b_is_step
  cases s with
  | touch t =>
    have h : x_is_name [.str t] = .ret (.bl true) := h
    simp (disch := omega) [Stp.kind, Stp.what, h, ne_tc, sz_le]
  | forget t =>
    have h : x_is_name [.str t] = .ret (.bl true) := h
    simp (disch := omega) [Stp.kind, Stp.what, h, ne_fc, sz_le]
  | cap n =>
    have h : 1 ≤ n := h
    have h2 : x_is_number [.int n] = .ret (.bl true) := by unfold x_is_number b_is_number; simp
    simp (disch := omega) [Stp.kind, Stp.what, h2, h]
theorem e_stepinit (s : Stp) (h : s.okN) : x_Step__d____init__ [.str s.kind, s.what] = .ret [.str s.kind, s.what] := by
  have h := e_isstep s h
  unfold x_Step__d____init__
  simp [h, Tr.ok]
theorem e_host (L : List Stp) (h : ∀ s ∈ L, s.okN) (hl : L.length ≤ 62) : x__law_host [matP L] = .ret (rul L) := by
  have e1 := xLcL_all (pe := [some (matP L), none]) (f := asgN (fun p => p) 1) (t := xYes) (a := xMake 0 x_Step__d____init__ (xCons (xBin gIx (xVar 1) (xC (.int 0))) (xCons (xBin gIx (xVar 1) (xC (.int 1))) xNil))) (c := Stp.pr) Stp.ob L (fun s hs => ⟨_, rfl, rfl, by
    have h2 := e_stepinit s (h s hs)
    simp [Stp.pr, h2, Stp.ob]⟩)
  simp [matP] at e1
  unfold x__law_host b__law_host
  simp (disch := omega) [matP, sz_le, e1, x_Rule__d____init__, rul, rulT]
theorem same_o {n : Nat} (a : Option Int) : x__law_same (n + 1) [oP a, oP a] = .ret (.bl true) := by
  unfold x__law_same b__law_same
  cases a <;> simp [oP, xsIf_t, xsIf_f, -xsIf_s]
theorem same_2 {n : Nat} (a : Option Int) : x__law_same (n + 2) [.lst [oP a, oP a], .lst [oP a, oP a]] = .ret (.bl true) := by
  have h := same_o (n := n) a
  unfold x__law_same b__law_same
  have e1 : xLcL (asgT (fun p => p) [2, 3]) xYes (xCall (x__law_same (n + 1)) (xCons (xVar 2) (xCons (xVar 3) xNil))) [some (.lst [oP a, oP a]), some (.lst [oP a, oP a]), none, none] [.tup [oP a, oP a], .tup [oP a, oP a]] = .ret [.bl true, .bl true] := by
    simp [xLcL, h]
  simp [zipP, pairsP, e1, gAll, asBls, xsIf_t, xsIf_f, -xsIf_s, (show sz 2 = true by decide)]
end TC
namespace TC
open PySem PySem.Spec PyProof.Rows L2 RZ
variable [Cl]
theorem e_take {n : Int} (h : 0 < n ∧ n < 100000000000000000000000000000000000000000) : x__law_take [.urn, .int n] = .draw n.toNat fun v => .ret (.int v) := by
  unfold x__law_take; dsimp only; rw [decide_eq_true h]; rfl
theorem take_wp {n : Int} {m : Nat} (h : 0 < n ∧ n < 100000000000000000000000000000000000000000) (hm : 0 < m) : (x__law_take [.urn, .int n]).wp m fun p m1 => m ≤ m1 + 1 ∧ ∃ v : Nat, (v : Int) < n ∧ p = .int v := by
  rw [e_take h]
  exact wp_draw hm fun v hv => wp_ret ⟨by omega, v, by omega, rfl⟩
theorem of_wpL {l : List Pv} {m : Nat} (h : l ≠ []) (hl : l.length ≤ 1000) (hm : 0 < m) : (x__law_of [.urn, .lst l]).wp m fun p m1 => m ≤ m1 + 1 ∧ p ∈ l := by
  have hp : 0 < l.length := List.length_pos_iff.mpr h
  unfold x__law_of b__law_of
  simp
  refine wp_bnd (take_wp (by omega) hm) fun p m1 ⟨h1, v, h2, e⟩ => ?_
  subst e
  have hv : v < l.length := by omega
  rw [gIx_nl hv]
  exact wp_ret ⟨h1, List.getElem_mem hv⟩
theorem of_wpT {l : List Pv} {m : Nat} (h : l ≠ []) (hl : l.length ≤ 1000) (hm : 0 < m) : (x__law_of [.urn, .tup l]).wp m fun p m1 => m ≤ m1 + 1 ∧ p ∈ l := by
  have hp : 0 < l.length := List.length_pos_iff.mpr h
  unfold x__law_of b__law_of
  simp
  refine wp_bnd (take_wp (by omega) hm) fun p m1 ⟨h1, v, h2, e⟩ => ?_
  subst e
  have hv : v < l.length := by omega
  rw [gIx_nt hv]
  exact wp_ret ⟨h1, List.getElem_mem hv⟩
theorem mixed_step {l r : List Str} {b : XV} {o : Option XV} {m : Nat} (hr : r ≠ []) (hrl : r.length ≤ 1000) (hl : l.length ≤ 1000) (hm : 0 < m) (P : Str → Prop) (h1 : ∀ z ∈ l, P z) (h2 : ∀ z ∈ r, P z) :
    (l__law_mixed_0 [some (.p .urn), some b, some (.own (r.map Pv.str)), some (.own (l.map Pv.str)), o]).wp m fun t m1 => m ≤ m1 + 1 ∧ ∃ l2 r2 : List Str, t = .nx [some (.p .urn), some b, some (.own (r2.map Pv.str)), some (.own (l2.map Pv.str)), o] ∧ l2.length = l.length + 1 ∧ r2.length + 1 = r.length ∧ (∀ z ∈ l2, P z) ∧ ∀ z ∈ r2, P z := by
  have hp : 0 < r.length := List.length_pos_iff.mpr hr
  have sl : l.length < sizeLine := Nat.lt_of_le_of_lt (show _ ≤ 1000 by omega) (by decide)
  have e : l__law_mixed_0 [some (.p .urn), some b, some (.own (r.map Pv.str)), some (.own (l.map Pv.str)), o] = (x__law_take [.urn, .int (r.length : Nat)]).bind fun p => .ok (nolst p.D) ((match p with
    | .int (.ofNat z) => match (r.map Pv.str)[z]? with
      | some d => .ok (decide ((l.map Pv.str).length < sizeLine) && sz (r.map Pv.str).length) (.ret (.nx [some (.p .urn), some b, some (.own ((r.map Pv.str).eraseIdx z)), some (.own (l.map Pv.str ++ [d])), o]))
      | none => .fail
    | _ => .fail)) := by
    have e0 : (xCall x__law_take (xCons (xVar 0) (xCons (xCall gLen (xCons (xVar 2) xNil)) xNil))) (all [some (.p .urn), some b, some (.own (r.map Pv.str)), some (.own (l.map Pv.str)), o]) = x__law_take [.urn, .int (r.length : Nat)] := by
      cases b <;> simp
    unfold l__law_mixed_0 xsAppPop rl
    dsimp only [List.getElem?_cons_succ, List.getElem?_cons_zero]
    rw [if_neg (by decide), e0, bind_assoc]
    congr 1
    funext p
    rw [bind_ok]
    rfl
  rw [e]
  refine wp_bnd (take_wp (by omega) hm) fun p m1 ⟨q1, v, q2, q3⟩ => ?_
  subst q3
  have hv : v < r.length := by omega
  have e3 : (r.map Pv.str)[v]? = some (.str r[v]) := by simp [hv]
  show (Tr.ok true (match (r.map Pv.str)[v]? with
      | some d => .ok (decide ((l.map Pv.str).length < sizeLine) && sz (r.map Pv.str).length) (.ret (Out.nx [some (.p .urn), some b, some (.own ((r.map Pv.str).eraseIdx v)), some (.own (l.map Pv.str ++ [d])), o]))
      | none => .fail)).wp m1 _
  rw [e3]
  dsimp only
  rw [List.length_map, List.length_map, decide_eq_true sl, sz_le (by omega)]
  refine wp_ret ⟨q1, l ++ [r[v]], r.eraseIdx v, ?_, by simp, by rw [List.length_eraseIdx, if_pos hv]; omega, fun z hz => ?_, fun z hz => h2 z (List.mem_of_mem_eraseIdx hz)⟩
  · simp [erase_map]
  · rcases List.mem_append.mp hz with hz | hz
    · exact h1 z hz
    · rw [List.mem_singleton.mp hz]; exact h2 _ (List.getElem_mem hv)
theorem mixed_wp (l : List Str) {m : Nat} (hl : l.length ≤ 100) (hm : l.length ≤ m) (P : Str → Prop) (hP : ∀ z ∈ l, P z) : (x__law_mixed [.urn, .lst (l.map Pv.str)]).wp m fun p m1 => m ≤ m1 + l.length ∧ ∃ l2 : List Str, p = tS l2 ∧ l2.length = l.length ∧ ∀ z ∈ l2, P z := by
  have e4 : xItR (xCall gLen (xCons (xVar 1) xNil)) [some .urn, some (.lst (l.map Pv.str)), none, none, none] = .ret ((List.range l.length).map fun (i : Nat) => Pv.int (i : Int)) := by
    have e1 : xCall gLen (xCons (xVar 1) xNil) [some .urn, some (.lst (l.map Pv.str)), none, none, none] = .ret (.int (l.length : Nat)) := by simp
    rw [xItR_r, e1, Tr.bind_ret, rngP_n (by omega)]
  unfold x__law_mixed b__law_mixed
  simp [-xItR_s, e4]
  refine wp_bnd (forL_wp (f := asgN XV.p 4) (c := fun (i : Nat) => Pv.int (i : Int)) (s := l__law_mixed_0) (List.range l.length) (fun A xe m1 => m ≤ m1 + A.length ∧ ∃ (f r : List Str) (o : Option XV), xe = [some (.p .urn), some (.p (.lst (l.map Pv.str))), some (.own (r.map Pv.str)), some (.own (f.map Pv.str)), o] ∧ f.length = A.length ∧ f.length + r.length = l.length ∧ (∀ z ∈ f, P z) ∧ ∀ z ∈ r, P z) (fun _ _ => False) ⟨by simp, [], l, none, rfl, rfl, by simp, nofun, hP⟩ ?_) ?_
  · rintro A z B xe m1 e ⟨q0, f, r, o, rfl, q1, q2, q3, q4⟩
    have e2 := congrArg List.length e
    simp at e2
    refine ⟨_, rfl, ?_⟩
    refine wp_le (mixed_step (l := f) (r := r) (b := .p (.lst (l.map Pv.str))) (o := some (.p (.int z))) (by intro h; subst h; simp at q2; omega) (by omega) (by omega) (by omega) P q3 q4) ?_
    rintro t m2 ⟨w0, l2, r2, rfl, w1, w2, w3, w4⟩
    exact ⟨by simp; omega, l2, r2, _, rfl, by simp; omega, by omega, w3, w4⟩
  · rintro o m1 h
    cases o with
    | rt p => exact h.elim
    | nx xe =>
      obtain ⟨q0, f, r, o, rfl, q1, q2, q3, q4⟩ := h
      simp at q0 q1
      simp
      exact wp_ret ⟨by omega, f, rfl, by omega, q3⟩
end TC
namespace TC
open PySem PySem.Spec PyProof.Rows L2 RZ
variable [Cl]
def pool : List Str := ["a", "ab", "b", "c", "d", "e", "k", "n", "zz", "zzzzzzzz"]
def Good (t : Str) : Prop := nmOk t ∧ PyData.strOk t = true
theorem pool_all : (pool.all fun t => isTrueT (x_is_name [.str t]) && PyData.strOk t) = true := by decide +kernel
theorem pool_good : ∀ t ∈ pool, Good t := fun t h => by
  have := List.all_eq_true.mp pool_all t h
  rw [Bool.and_eq_true] at this
  exact ⟨isTrueT_of this.1, this.2⟩
theorem tags_wp {k m : Nat} (hk : k ≤ 10) (hm : 10 ≤ m) : Wp (x__law_tags [.urn, .int (k : Nat)]) m fun p m1 => m ≤ m1 + 10 ∧ ∃ T : List Str, p = tS T ∧ T.length ≤ 10 ∧ ∀ z ∈ T, Good z := by
  constructor
  have h := mixed_wp pool (m := m) (by decide) hm Good pool_good
  simp [pool] at h
  unfold x__law_tags b__law_tags
  simp
  refine wp_bnd h fun p m1 ⟨q0, l, e, q1, q2⟩ => ?_
  subst e
  have hl : (l.take k).length ≤ 10 := by rw [List.length_take]; omega
  have e1 : gSl (tS l) none (some (k : Int)) = .ret (tS (l.take k)) := by simp [tS, gSl, cutD_take]
  have e2 : gSortT [tS (l.take k)] = .ret (.lst ((sortS (l.take k)).map Pv.str)) := by
    have := gSortT_s (l := l.take k)
    rw [ok_dec (by omega)] at this
    exact this
  rw [e1, Tr.bind_ret, e2, Tr.bind_ret, gTuple_l, Tr.bind_ret]
  exact wp_ret ⟨by omega, sortS (l.take k), rfl, by rw [sortS_perm.length_eq]; exact hl, fun z hz => q2 z (List.mem_of_mem_take (sortS_perm.mem_iff.mp hz))⟩
def Stp.okL (s : Stp) : Prop := s.okS ∧ s.okN
theorem cap_tail {f : Pv → Tr Out} {h : Int} (hh : 0 ≤ h) {m : Nat} (hm : 2 ≤ m) {Q : Out → Nat → Prop} (H : ∀ (n : Int) (m1 : Nat), 1 ≤ n → m ≤ m1 + 2 → (f (.int n)).wp m1 Q) :
    ((x__law_take [.urn, .int 5]).bind fun a => (gAdd (.int 1) a).bind fun a => (x__law_take [.urn, .int 12]).bind fun a_1 => (gGt a_1 (.int 0)).bind fun a_2 => (asB a_2).bind fun a_3 => if a_3 = true then (gAdd a (.int h)).bind f else (gAdd a (.int 0)).bind f).wp m Q := by
  refine wp_bnd (take_wp (by decide) (by omega)) fun p m1 ⟨q0, v, q1, e⟩ => ?_
  subst e
  rw [gAdd_i, Tr.bind_ret]
  refine wp_bnd (take_wp (by decide) (by omega)) fun p m2 ⟨q2, u, q3, e⟩ => ?_
  subst e
  rw [gGt_i, Tr.bind_ret, asB_s, Tr.bind_ret]
  split
  · rw [gAdd_i, Tr.bind_ret]; exact H _ _ (by omega) (by omega)
  · rw [gAdd_i, Tr.bind_ret]; exact H _ _ (by omega) (by omega)
theorem line_step {T : List Str} (hT : T.length ≤ 10) (hG : ∀ z ∈ T, Good z) {A : List Stp} {held : List Str} {o6 o7 o8 : Option XV} {m : Nat} (hA : A.length ≤ 60) (hA2 : ∀ s ∈ A, s.okL) (hh : held.length ≤ 60) (hm : 3 ≤ m) :
    (l__law_line_0 [some (.p .urn), some (.p (tS T)), some (.p (.int 9)), some (.p (.int 5)), some (.own (A.map Stp.pr)), some (.p (tS held)), o6, o7, o8, none]).wp m fun t m1 => m ≤ m1 + 3 ∧ ∃ (s : Stp) (h2 : List Str) (p7 p8 : Option XV), t = .nx [some (.p .urn), some (.p (tS T)), some (.p (.int 9)), some (.p (.int 5)), some (.own ((A ++ [s]).map Stp.pr)), some (.p (tS h2)), o6, p7, p8, none] ∧ s.okL ∧ h2.length ≤ held.length + 1 := by
  have q1 := gEq_iff (n := 1) (m := 1) (p := tS T) (q := .tup []) (c := T = []) (neg := true) (nice_strs fun z hz => (hG z hz).2).1 rfl (by decide) (by decide) (by simp [tS])
  have sl : A.length < sizeLine := Nat.lt_of_le_of_lt (show _ ≤ 60 by omega) (by decide)
  have s0 : sz 0 = true := by decide
  have s1 : sz 1 = true := by decide
  have s2 : sz 2 = true := by decide
  have s5 : sz 5 = true := by decide
  unfold l__law_line_0
  by_cases hc : T = []
  · subst hc
    simp [q1, s0, s2, ok_dec sl]
    refine cap_tail (by omega) (by omega) fun n m1 h1 h2 => wp_ret ⟨by omega, .cap n, held, ⟨_, _, rfl⟩, ⟨h1, h1⟩, by omega⟩
  · have hmem : ∀ p ∈ [Pv.str "touch", Pv.str "touch", Pv.str "forget", Pv.str "cap", Pv.str "cap"], p = .str "touch" ∨ p = .str "forget" ∨ p = .str "cap" := fun p hp => by
      simpa using hp
    have e1 := fun (z6 z7 : Option Pv) (t : Str) => xLcL_map (pe := [some .urn, some (tS T), some (.int 9), some (.int 5), none, some (tS held), z6, z7, some (.str t), none]) (f := asgN (fun p => p) 9) (t := xB (xBin (gEq true) (xVar 9) (xVar 8))) (a := xVar 9) (c := Pv.str) Pv.str (fun x => !decide (x = t)) held (fun z hz => ⟨_, rfl, by simp, fun _ => by simp⟩)
    have hfl : ∀ t, (held.filter fun x => !decide (x = t)).length ≤ held.length := fun t => List.length_filter_le _ _
    simp [q1, hc, s0, s1, s2, s5, ok_dec sl, sz_le (show held.length ≤ 16777216 by omega)]
    refine wp_bnd (of_wpL (by simp) (by simp) (by omega)) fun p m1 ⟨h1, h2⟩ => ?_
    rcases hmem p h2 with rfl | rfl | rfl
    · simp [ne_tc]
      refine wp_bnd (of_wpT (by simpa using hc) (by simp; omega) (by omega)) fun p m2 ⟨h3, h4⟩ => ?_
      obtain ⟨t, ht, rfl⟩ := List.mem_map.mp h4
      have := hfl t
      simp [e1, sz_le (show (held.filter fun x => !decide (x = t)).length + 1 ≤ 16777216 by omega)]
      refine wp_ret ⟨by omega, .touch t, (held.filter fun x => !decide (x = t)) ++ [t], ⟨_, _, by simp [Stp.pr, Stp.kind, Stp.what, tS]; exact ⟨rfl, rfl⟩⟩, ⟨(hG t ht).2, (hG t ht).1⟩, by simp; omega⟩
    · simp [ne_fc, ne_ft]
      refine wp_bnd (of_wpT (by simpa using hc) (by simp; omega) (by omega)) fun p m2 ⟨h3, h4⟩ => ?_
      obtain ⟨t, ht, rfl⟩ := List.mem_map.mp h4
      have := hfl t
      simp [e1]
      refine wp_ret ⟨by omega, .forget t, (held.filter fun x => !decide (x = t)), ⟨_, _, by simp [Stp.pr, Stp.kind, Stp.what, tS]; exact ⟨rfl, rfl⟩⟩, ⟨(hG t ht).2, (hG t ht).1⟩, by omega⟩
    · simp
      refine cap_tail (by omega) (by omega) fun n m2 h3 h4 => wp_ret ⟨by omega, .cap n, held, ⟨_, _, rfl⟩, ⟨h3, h3⟩, by omega⟩
theorem line_wp {T : List Str} (hT : T.length ≤ 10) (hG : ∀ z ∈ T, Good z) {m : Nat} (hm : 100 ≤ m) : Wp (x__law_line [.urn, tS T, .int 9, .int 5]) m fun p m1 => m ≤ m1 + 100 ∧ ∃ A : List Stp, p = matP A ∧ A.length ≤ 10 ∧ ∀ s ∈ A, s.okL := by
  constructor
  have e0 : xItR (xCall x__law_take (xCons (xVar 0) (xCons (xBin gAdd (xVar 2) (xC (.int 1))) xNil))) [some Pv.urn, some (tS T), some (.int 9), some (.int 5), none, some (.tup []), none, none, none, none] = (x__law_take [.urn, .int 10]).bind rngP := by
    have : (xCall x__law_take (xCons (xVar 0) (xCons (xBin gAdd (xVar 2) (xC (.int 1))) xNil))) [some Pv.urn, some (tS T), some (.int 9), some (.int 5), none, some (.tup []), none, none, none, none] = x__law_take [.urn, .int 10] := by simp
    rw [xItR_r, this]
  unfold x__law_line b__law_line
  simp [-xItR_s, (show sz 0 = true by decide)]
  rw [e0, bind_assoc]
  refine wp_bnd (take_wp (by decide) (by omega)) fun p m1 ⟨q0, v, q1, e⟩ => ?_
  subst e
  rw [rngP_n (by omega), Tr.bind_ret]
  refine wp_bnd (forL_wp (f := asgN XV.p 6) (c := fun (i : Nat) => Pv.int (i : Int)) (s := l__law_line_0) (List.range v) (fun B xe m2 => m1 ≤ m2 + 3 * B.length ∧ ∃ (A : List Stp) (h : List Str) (o6 o7 o8 : Option XV), xe = [some (.p .urn), some (.p (tS T)), some (.p (.int 9)), some (.p (.int 5)), some (.own (A.map Stp.pr)), some (.p (tS h)), o6, o7, o8, none] ∧ A.length = B.length ∧ h.length ≤ B.length ∧ ∀ s ∈ A, s.okL) (fun _ _ => False) ⟨by simp, [], [], none, none, none, rfl, rfl, by simp, nofun⟩ ?_) ?_
  · rintro B z C xe m2 e ⟨w0, A, h, o6, o7, o8, rfl, w1, w2, w3⟩
    have e2 := congrArg List.length e
    simp at e2
    refine ⟨_, rfl, ?_⟩
    refine wp_le (line_step (o6 := some (.p (.int z))) (o7 := o7) (o8 := o8) hT hG (by omega) w3 (by omega) (by omega)) ?_
    rintro t m3 ⟨u0, s, h2, p7, p8, rfl, u1, u2⟩
    refine ⟨by simp; omega, A ++ [s], h2, _, p7, p8, rfl, by simp; omega, by simp; omega, fun s2 hs => ?_⟩
    rcases List.mem_append.mp hs with hs | hs
    · exact w3 s2 hs
    · rw [List.mem_singleton.mp hs]; exact u1
  · rintro o m2 h
    cases o with
    | rt p => exact h.elim
    | nx xe =>
      obtain ⟨w0, A, h, o6, o7, o8, rfl, w1, w2, w3⟩ := h
      simp at w0 w1
      simp
      exact wp_ret ⟨by omega, A, rfl, by omega, w3⟩
end TC
namespace TC
open PySem PySem.Spec PyProof.Rows L2 RZ
variable [Cl]
theorem hand_eq : x__law_by_hand_right [] = .ret (.bl true) := isTrueT_of hand_ok
def nmL : List Stp → List Str
  | [] => []
  | .cap _ :: L => nmL L
  | .touch t :: L => t :: nmL L
  | .forget t :: L => t :: nmL L
theorem mem_ordT : ∀ {L : List Stp} {acc : List Str} {x : Str}, x ∈ ordT acc L ↔ x ∈ nmL L ∨ x ∈ acc
  | [], _, _ => by simp [ordT, nmL]
  | .cap _ :: L, _, _ => mem_ordT (L := L)
  | .touch t :: L, acc, x => by
    show x ∈ ordT (if t ∈ acc then acc else acc ++ [t]) L ↔ _
    rw [mem_ordT (L := L), acc_mem]
    show _ ↔ x ∈ t :: nmL L ∨ x ∈ acc
    rw [List.mem_cons]
    exact ⟨fun h => h.elim (fun h => .inl (.inr h)) fun h => h.elim (fun h => .inl (.inl h)) .inr, fun h => h.elim (fun h => h.elim (fun h => .inr (.inl h)) .inl) fun h => .inr (.inr h)⟩
  | .forget t :: L, acc, x => by
    show x ∈ ordT (if t ∈ acc then acc else acc ++ [t]) L ↔ _
    rw [mem_ordT (L := L), acc_mem]
    show _ ↔ x ∈ t :: nmL L ∨ x ∈ acc
    rw [List.mem_cons]
    exact ⟨fun h => h.elim (fun h => .inl (.inr h)) fun h => h.elim (fun h => .inl (.inl h)) .inr, fun h => h.elim (fun h => h.elim (fun h => .inr (.inl h)) .inl) fun h => .inr (.inr h)⟩
theorem nm_len (L : List Stp) : (setOf (nmL L)).length = (ordT [] L).length := setOf_len (ordT_nd List.nodup_nil) fun z => by rw [mem_ordT]; simp
def isNm : Stp → Bool
  | .cap _ => false
  | _ => true
theorem nmL_map : ∀ L : List Stp, (L.filter isNm).map Stp.what = (nmL L).map Pv.str
  | [] => rfl
  | .cap _ :: L => nmL_map L
  | .touch t :: L => by show Pv.str t :: (L.filter isNm).map Stp.what = Pv.str t :: (nmL L).map Pv.str; rw [nmL_map L]
  | .forget t :: L => by show Pv.str t :: (L.filter isNm).map Stp.what = Pv.str t :: (nmL L).map Pv.str; rw [nmL_map L]
theorem nmL_len : ∀ L : List Stp, (nmL L).length ≤ L.length
  | [] => Nat.le_refl _
  | .cap _ :: L => Nat.le_succ_of_le (nmL_len L)
  | .touch t :: L => Nat.succ_le_succ (nmL_len L)
  | .forget t :: L => Nat.succ_le_succ (nmL_len L)
theorem up_ok {c : Int} (hc : 0 ≤ c) {s : Stp} (h : s.okL) : (s.up c).okL := by
  cases s with
  | touch t => exact h
  | forget t => exact h
  | cap n =>
    have h : 1 ≤ n := h.1
    exact ⟨show 1 ≤ n + c by omega, show 1 ≤ n + c by omega⟩
theorem wide_eq (L : List Stp) (c : Int) (pe : PEnv) (h3 : ∀ p, xVar 3 (pe.set 8 p) = .ret (.int c)) (h8 : 8 < pe.length) : xLcL (asgN (fun p => p) 8) xYes (xIf (xB (xBin (gEq false) (xBin gIx (xVar 8) (xC (.int 0))) (xC (.str "cap")))) (xTup (xCons (xC (.str "cap")) (xCons (xBin gAdd (xBin gIx (xVar 8) (xC (.int 1))) (xVar 3)) xNil))) (xVar 8)) pe (L.map Stp.pr) = .ret ((L.map (Stp.up c)).map Stp.pr) := by
  have s2 : sz 2 = true := by decide
  rw [List.map_map]
  refine xLcL_all (c := Stp.pr) (fun s => (Stp.up c s).pr) L fun s hs => ⟨_, rfl, rfl, ?_⟩
  have h8 : ∀ q : Pv, xVar 8 (pe.set 8 (some q)) = .ret q := fun q => by
    unfold xVar
    rw [List.getElem?_set_self h8]
  cases s with
  | touch t => simp [h8, Stp.pr, Stp.kind, Stp.what, Stp.up, ne_tc]
  | forget t => simp [h8, Stp.pr, Stp.kind, Stp.what, Stp.up, ne_fc]
  | cap n => simp [h8, h3, Stp.pr, Stp.kind, Stp.what, Stp.up, s2]
theorem names_eq (L : List Stp) (pe : PEnv) (h8 : 8 < pe.length) : xLcL (asgN (fun p => p) 8) (xB (xBin (gEq true) (xBin gIx (xVar 8) (xC (.int 0))) (xC (.str "cap")))) (xBin gIx (xVar 8) (xC (.int 1))) pe (L.map Stp.pr) = .ret ((nmL L).map Pv.str) := by
  rw [← nmL_map]
  have h8 : ∀ q : Pv, xVar 8 (pe.set 8 (some q)) = .ret q := fun q => by
    unfold xVar
    rw [List.getElem?_set_self h8]
  refine xLcL_map (c := Stp.pr) Stp.what isNm L fun s hs => ⟨_, rfl, ?_, fun _ => ?_⟩
  · cases s with
    | touch t => simp [h8, Stp.pr, Stp.kind, isNm, ne_tc]
    | forget t => simp [h8, Stp.pr, Stp.kind, isNm, ne_fc]
    | cap n => simp [h8, Stp.pr, Stp.kind, isNm]
  · simp [h8, Stp.pr]
theorem e_kw (ps : List Pv) (h : ps.length = 1) : ps = [ps[0]'(by omega)] := by
  match ps, h with
  | [p], _ => rfl
theorem c_of {p : Pv} (h : p ∈ [Pv.int 1, Pv.int 2, Pv.int 100000000000000000000, Pv.int 1000000000000000000000000000000000000000]) : ∃ c : Int, 0 ≤ c ∧ p = .int c := by
  simp only [List.mem_cons, List.not_mem_nil, or_false] at h
  rcases h with rfl | rfl | rfl | rfl <;> exact ⟨_, by decide, rfl⟩
def turnB (tak off tags lin lhg hst hg sam : GA) : XS := (xsSeq (xsAsg (pl (xTup (xCons (xCall tags (xCons (xVar 0) (xCons (xCall tak (xCons (xVar 0) (xCons (xC (.int 5)) xNil))) xNil))) (xCons (xCall off (xCons (xVar 0) (xCons (xLst (xCons (xC (.int 1)) (xCons (xC (.int 2)) (xCons (xBin gPow (xC (.int 10)) (xC (.int 20))) (xCons (xBin gPow (xC (.int 10)) (xC (.int 39))) xNil))))) xNil))) xNil)))) (asgT XV.p [2, 3]))
 (xsSeq (xsSet 4 (pl (xCall lin (xCons (xVar 0) (xCons (xVar 2) (xCons (xC (.int 9)) (xCons (xC (.int 5)) xNil)))))))
 (xsSeq (xsSet 5 (pl (xCall lhg (xCons (xVar 4) xNil))))
 (xsSeq (xsSet 6 (pl (xLc (xItV 4) (asgN (fun p => p) 8) xYes (xIf (xB (xBin (gEq false) (xBin gIx (xVar 8) (xC (.int 0))) (xC (.str "cap")))) (xTup (xCons (xC (.str "cap")) (xCons (xBin gAdd (xBin gIx (xVar 8) (xC (.int 1))) (xVar 3)) xNil))) (xVar 8)) [8])))
 (xsSeq (xsSet 7 (pl (xMap gLenSetL (xLc (xItV 4) (asgN (fun p => p) 8) (xB (xBin (gEq true) (xBin gIx (xVar 8) (xC (.int 0))) (xC (.str "cap")))) (xBin gIx (xVar 8) (xC (.int 1))) [8]))))
 (xsSeq (xsIf (pl (xNot (xB (xCall sam (xCons (xLst (xCons (xCall hg (xCons (xCall hst (xCons (xVar 4) xNil)) xNil)) (xCons (xCallK 1 (rp [0]) hg (xCons (xCall hst (xCons (xVar 4) xNil)) xNil)) xNil))) (xCons (xLst (xCons (xVar 5) (xCons (xVar 5) xNil))) xNil))))))
 (xsRet (pl (xC (.bl false))))
 xsNext)
 (xsIf (pl (xAnd (xB (xIsN true (xVar 5))) (xNot (xB (xCall sam (xCons (xCall hg (xCons (xCall hst (xCons (xVar 6) xNil)) xNil)) (xCons (xBin gAdd (xVar 5) (xBin gMul (xVar 3) (xBin gAdd (xVar 7) (xC (.int 1))))) xNil)))))))
 (xsRet (pl (xC (.bl false))))
 xsNext)))))))
theorem turnB_eq : l__law_right_0 = turnB x__law_take x__law_of x__law_tags x__law_line x__law_height x__law_host x_height (x__law_same 3) := rfl
theorem turn_gen (tak off tags lin lhg hst hg sam : GA)
    (hT : ∀ {n : Int} {m : Nat}, 0 < n ∧ n < 100000000000000000000000000000000000000000 → 0 < m → (tak [.urn, .int n]).wp m fun p m1 => m ≤ m1 + 1 ∧ ∃ v : Nat, (v : Int) < n ∧ p = .int v)
    (hO : ∀ {l : List Pv} {m : Nat}, l ≠ [] → l.length ≤ 1000 → 0 < m → (off [.urn, .lst l]).wp m fun p m1 => m ≤ m1 + 1 ∧ p ∈ l)
    (hG : ∀ {k m : Nat}, k ≤ 10 → 10 ≤ m → Wp (tags [.urn, .int (k : Nat)]) m fun p m1 => m ≤ m1 + 10 ∧ ∃ T : List Str, p = tS T ∧ T.length ≤ 10 ∧ ∀ z ∈ T, Good z)
    (hL : ∀ {T : List Str} {m : Nat}, T.length ≤ 10 → (∀ z ∈ T, Good z) → 100 ≤ m → Wp (lin [.urn, tS T, .int 9, .int 5]) m fun p m1 => m ≤ m1 + 100 ∧ ∃ A : List Stp, p = matP A ∧ A.length ≤ 10 ∧ ∀ s ∈ A, s.okL)
    (h1 : ∀ L : List Stp, (∀ s ∈ L, s.okS) → L.length ≤ 62 → lhg [matP L] = .ret (oP (hgtL L)))
    (h2 : ∀ L : List Stp, (∀ s ∈ L, s.okN) → L.length ≤ 62 → hst [matP L] = .ret (rul L))
    (h3 : ∀ L : List Stp, (∀ s ∈ L, s.okS) → L.length ≤ 62 → hg [rul L] = .ret (oP (hgtL L)))
    (h4 : ∀ a : Option Int, sam [oP a, oP a] = .ret (.bl true))
    (h5 : ∀ a : Option Int, sam [.lst [oP a, oP a], .lst [oP a, oP a]] = .ret (.bl true))
    {o1 o2 o3 o4 o5 o6 o7 o8 : Option XV} {m : Nat} (hm : 120 ≤ m) : (turnB tak off tags lin lhg hst hg sam [some (.p .urn), o1, o2, o3, o4, o5, o6, o7, o8]).wp m fun t m1 => m ≤ m1 + 120 ∧ ∃ o2 o3 o4 o5 o6 o7 o8, t = .nx [some (.p .urn), o1, o2, o3, o4, o5, o6, o7, o8] := by
  have s2 : sz 2 = true := by decide
  have s4 : sz 4 = true := by decide
  unfold turnB
  have p1 : gPow (Pv.int 10) (Pv.int 20) = .ret (Pv.int 100000000000000000000) := by
    have z1 : cpow 10 20 = true := by decide +kernel
    have z2 : (10 : Int) ^ (20 : Int).toNat = 100000000000000000000 := by decide +kernel
    show Tr.ok (cpow 10 20) (.ret (Pv.int ((10 : Int) ^ (20 : Int).toNat))) = _
    rw [z1, z2]; rfl
  have p2 : gPow (Pv.int 10) (Pv.int 39) = .ret (Pv.int 1000000000000000000000000000000000000000) := by
    have z1 : cpow 10 39 = true := by decide +kernel
    have z2 : (10 : Int) ^ (39 : Int).toNat = 1000000000000000000000000000000000000000 := by decide +kernel
    show Tr.ok (cpow 10 39) (.ret (Pv.int ((10 : Int) ^ (39 : Int).toNat))) = _
    rw [z1, z2]; rfl
  simp [s2, s4, p1, p2]
  clear p1 p2
  refine wp_bnd (hT (by decide) (by omega)) ?_
  intro p m1 hq
  obtain ⟨q0, v, q1, e⟩ := hq
  subst e
  refine (hG (by omega) (by omega)).bnd ?_
  intro p m2 hq
  obtain ⟨q2, T, e, q3, q4⟩ := hq
  subst e
  refine wp_bnd (hO (by simp) (by simp) (by omega)) ?_
  intro p m3 hq
  obtain ⟨q5, q6⟩ := hq
  obtain ⟨c, hc0, e⟩ := c_of q6
  clear q6
  subst e
  refine (hL q3 q4 (by omega)).bnd ?_
  intro p m4 hq
  obtain ⟨q7, L, e, q8, q9⟩ := hq
  subst e
  have k1 : ∀ s ∈ L, s.okS := fun s hs => (q9 s hs).1
  have k2 : ∀ s ∈ L, s.okN := fun s hs => (q9 s hs).2
  have k3 : ∀ s ∈ L.map (Stp.up c), s.okS := fun s hs => by
    obtain ⟨z, hz, rfl⟩ := List.mem_map.mp hs
    exact (up_ok hc0 (q9 z hz)).1
  have k4 : ∀ s ∈ L.map (Stp.up c), s.okN := fun s hs => by
    obtain ⟨z, hz, rfl⟩ := List.mem_map.mp hs
    exact (up_ok hc0 (q9 z hz)).2
  have e1 := h1 L k1 (by omega)
  have e2 := h2 L k2 (by omega)
  have e3 := h3 L k1 (by omega)
  have e4 := h2 (L.map (Stp.up c)) k4 (by rw [List.length_map]; omega)
  have e5 := h3 (L.map (Stp.up c)) k3 (by rw [List.length_map]; omega)
  have e6 : itP (matP L) = .ret (L.map Stp.pr) := rfl
  have e7 : ∀ a0 a1 a2 a4 a5 a6 a7 : Option Pv, _ := fun a0 a1 a2 a4 a5 a6 a7 => wide_eq L c [a0, a1, a2, some (.int c), a4, a5, a6, a7, none] (fun p => rfl) (by simp)
  have e8 : ∀ a0 a1 a2 a3 a4 a5 a6 a7 : Option Pv, _ := fun a0 a1 a2 a3 a4 a5 a6 a7 => names_eq L [a0, a1, a2, a3, a4, a5, a6, a7, none] (by simp)
  have e9 : gLenSetL (.lst ((nmL L).map Pv.str)) = .ret (.int ((ordT [] L).length : Nat)) := by
    have := nmL_len L
    unfold gLenSetL
    dsimp only
    rw [asStrs_map]
    dsimp only
    rw [ok_dec (by omega), nm_len]
  have e10 : rp [0] [rul L] = [rul L] := rfl
  have e11 := h5 (hgtL L)
  rw [e1, Tr.bind_ret, e6, Tr.bind_ret, List.length_map, sz_le (by omega)]
  show ((xLcL (asgN (fun p => p) 8) xYes _ _ (L.map Stp.pr)).bind _).wp m4 _
  rw [e7, Tr.bind_ret, Tr.bind_ret, List.length_map, sz_le (by omega)]
  show ((xLcL (asgN (fun p => p) 8) _ _ _ (L.map Stp.pr)).bind _).wp m4 _
  rw [e8, Tr.bind_ret, e9, Tr.bind_ret, e2, Tr.bind_ret, e3, Tr.bind_ret, Tr.bind_ret, e10, e3, Tr.bind_ret, e11, Tr.bind_ret, asB_s, Tr.bind_ret, if_neg (by decide)]
  cases hv : hgtL L with
  | none => exact wp_ret ⟨by omega, _, _, _, _, _, _, _, rfl⟩
  | some v =>
    rw [if_pos (show isNon (oP (some v)) = false from rfl)]
    have e12 := hgt_up hc0 hv
    rw [e12] at e5
    have e13 := h4 (some (v + c * (((ordT [] L).length + 1 : Nat) : Int)))
    have e14 : cmul c ((ordT [] L).length + 1) = true := by
      have := ordT_len (L := L) (acc := [])
      simp at this
      unfold cmul
      rw [decide_eq_true_eq]
      omega
    simp only [oP] at e5 e13
    simp at e13
    show ((hst [matP (L.map (Stp.up c))]).bind _).wp m4 _
    rw [e4, Tr.bind_ret, e5, Tr.bind_ret, gAdd_i, Tr.bind_ret, gMul_i, e14]
    simp [oP, e13, Tr.ok]
    exact wp_ret ⟨by omega, _, _, _, _, _, _, _, rfl⟩
theorem turn_wp {o1 o2 o3 o4 o5 o6 o7 o8 : Option XV} {m : Nat} (hm : 120 ≤ m) : (l__law_right_0 [some (.p .urn), o1, o2, o3, o4, o5, o6, o7, o8]).wp m fun t m1 => m ≤ m1 + 120 ∧ ∃ o2 o3 o4 o5 o6 o7 o8, t = .nx [some (.p .urn), o1, o2, o3, o4, o5, o6, o7, o8] := by
  rw [turnB_eq]
  exact turn_gen _ _ _ _ _ _ _ _ take_wp of_wpL tags_wp (fun a b c => line_wp a b c) e_lheight e_host e_height (same_o (n := 2)) (same_2 (n := 1)) hm
theorem right_wp : ∀ m, 2000 ≤ m → (x__law_right [.urn]).wp m fun p _ => p = .bl true := fun m hm => by
  have e4 : xItR (xC (.int 16)) [some .urn, none, none, none, none, none, none, none, none] = .ret ((List.range 16).map fun (i : Nat) => Pv.int (i : Int)) := by
    rw [xItR_r, xC_s, Tr.bind_ret]
    exact rngP_n (n := 16) (by omega)
  unfold x__law_right b__law_right
  simp [-xItR_s, e4]
  refine wp_bnd (forL_wp (f := asgN XV.p 1) (c := fun (i : Nat) => Pv.int (i : Int)) (s := l__law_right_0) (List.range 16) (fun A xe m1 => m ≤ m1 + 120 * A.length ∧ ∃ o1 o2 o3 o4 o5 o6 o7 o8, xe = [some (.p .urn), o1, o2, o3, o4, o5, o6, o7, o8]) (fun _ _ => False) ⟨by simp, _, _, _, _, _, _, _, _, rfl⟩ ?_) ?_
  · rintro A z B xe m1 e ⟨q0, o1, o2, o3, o4, o5, o6, o7, o8, rfl⟩
    have e2 := congrArg List.length e
    simp at e2
    refine ⟨_, rfl, wp_le (turn_wp (o1 := some (.p (.int z))) (o2 := o2) (o3 := o3) (o4 := o4) (o5 := o5) (o6 := o6) (o7 := o7) (o8 := o8) (by omega)) ?_⟩
    rintro t m2 ⟨w0, p2, p3, p4, p5, p6, p7, p8, rfl⟩
    exact ⟨by simp; omega, _, _, _, _, _, _, _, _, rfl⟩
  · rintro o m1 h
    cases o with
    | rt p => exact h.elim
    | nx xe =>
      simp
      exact wp_ret rfl
end TC
namespace TC
open PySem PySem.Spec PyProof.Rows L2 RZ
variable [Cl]
section
variable {P : Program} {w : World} {K : PySem.W.Frag} {mg : Str → Option Value} {base : Heap}
def spHand : DSp := fun ds m Q => ds = [] ∧ Q (.bl true) m
theorem okHand (T : Blt mg) (L : Lib Cl.K mg) : FnOk P w Cl.K mg base CX0 9 L.f__law_by_hand_right L.fd__law_by_hand_right [] (spD spHand) := FnOk.spw (ok__law_by_hand_right T L) fun ds m Q ⟨e, q⟩ => ⟨[], by rw [e, PDs], by rw [hand_eq]; exact q⟩
theorem okRight (T : Blt mg) (L : Lib Cl.K mg) : FnOk P w Cl.K mg base CX0 9 L.f__law_right L.fd__law_right ["_law_urn"] (spD (spR 2000)) := FnOk.spw (ok__law_right T L) fun ds m Q ⟨e, h, q⟩ => ⟨[.urn], by rw [e, PDs, PDs, Pv.D], (right_wp m h).mono fun p m1 hp => by rw [hp]; exact q m1⟩
def spLaw (K : PySem.W.Frag) : Sp := fun vs H Q _ => ∃ (a : Addr) (ns : List Int), vs = [.ref a] ∧ SqL K H a (ns.map V.int) ∧ ns.length ≤ 63 ∧ ∀ H', Q (.bl true) H'
abbrev s_law : Stmt := top 57
theorem scLaw : FnScope ["_law_script", "_law_cells_so", "_law_k"] ["_law_script"] (defScope s_law) := ⟨rfl, rfl, rfl, by decide +kernel, rfl, by decide +kernel, by decide +kernel⟩
theorem range_true (N : Nat) : (List.range N).map (fun _ => D.bl true) = (List.replicate N true).map D.bl := by
  apply List.ext_getElem?
  intro i
  by_cases h : i < N
  · simp [h]
  · simp [h]
theorem all_repT (n : Nat) : (List.replicate n true).all (fun b => b) = true := by simp
theorem ok_law {f : Addr} {fd : FuncData} (F : Fun Cl.K "law" "law" s_law f fd) (T : Blt mg) (L : Lib Cl.K mg) : FnOk P w Cl.K mg base CX0 10 f fd ["_law_script"] (spLaw Cl.K) := by
  refine F.ok scLaw (fun vs H Q E h => ?_) (fun cdv A outer s H vs Q E hr h => ?_)
  · obtain ⟨a, ns, rfl, _⟩ := h
    rfl
  · obtain ⟨a, ns, rfl, hS, hl, q⟩ := h
    have nd := scLaw.nd
    refine ⟨_, pss_cons (ps_if (pt_not (pt_val (pe_call0 (okHand T L) (hr.mono (by decide)) rfl L.a__law_by_hand_right.mg L.a__law_by_hand_right.fn.kp L.a__law_by_hand_right.bd .nil pass0))) pss_self pss_nil) (pss_cons (ps_set (i := 1) nd rfl (Or.inr rfl) (pe_call (ok_cells L.a__law_cells.fn T) (hr.mono (by decide)) rfl L.a__law_cells.mg L.a__law_cells.fn.kp L.a__law_cells.bd .nil pass0 (pa_cons (pv 0) (pa_cons pe_int pa_nil)))) (pss_one ps_self)), ?_⟩
    refine ⟨⟨none, [], [], fun _ h => h⟩, [], 0, (fun d _ => d = .bl true), .nil, ⟨fun _ z => (by cases z), fun _ z => (by cases z)⟩, ⟨rfl, rfl⟩, fun v d m' H2 fr _ hd e => ?_⟩
    subst e
    rw [Hd.bl] at hd
    subst hd
    refine ⟨true, rfl, iteF ?_⟩
    have same2 : Same H H2 := fun b o e => fr b o (fun z => by cases z) e
    have hS : SqL Cl.K H2 a (ns.map V.int) := same2.seq hS
    refine ⟨_, rfl, a, ns, 3, rfl, hS, hl, by decide, by decide, fun H' p ms sm np hp l0 l1 => ?_⟩
    have fl : (ms.map D.int).all flatD = true := by rw [List.all_eq_true]; intro d hd; obtain ⟨b, _, rfl⟩ := List.mem_map.mp hd; rfl
    have hds : ∀ l : List Int, Hds ⟨none, [], [], fun _ h => h⟩ H' (l.map V.int) (l.map D.int) := fun l => by
      induction l with
      | nil => exact .nil
      | cons x l ih => exact .cons (Hd.int.mpr rfl) ih
    have hcell : Hd ⟨none, [], [], fun _ h => h⟩ H' (.ref p) (.lst (ms.map D.int)) := Hd.lst.mpr ⟨p, _, rfl, fun z => (by rcases z with z | z <;> cases z), hp, hds ms⟩
    refine (ds_ret (de_callB (dc_all rfl) T.all (da_cons (de_lc (own := [("_law_k", 2)]) rfl nd (di_range T.range (de_callB dc_lenA T.len (da_cons (dv 1) da_nil))) (blkOk_by (N := ["_law_script", "_law_cells_so", "_law_k"]) (sc := defScope s_law) (by decide +kernel)) (fun _ _ _ _ _ => dg_name (i := 2) nd) (fun _ _ _ _ _ => dts_nil) (fun _ _ _ _ _ => de_rb (B := 2000) (okRight T L) (by decide) (ok_box L.a__law_box.fn T) (hr.mono (by decide)) (hr.mono (by decide)) L.a__law_right.mg L.a__law_right.fn.kp L.a__law_right.bd L.a__law_box.mg L.a__law_box.fn.kp L.a__law_box.bd (dv 1) (dv 2))) da_nil))).run ⟨none, [], [], fun _ h => h⟩ _ H' [none, some (.lst (ms.map D.int)), none] 0 (fun _ _ => False) (fun d _ => d = .bl true) _ ⟨rfl, ?_⟩ ⟨fun _ z => by (cases z), fun _ z => by (cases z)⟩ ?_ (fun _ _ _ _ _ _ _ z => z.elim) (fun v d m' H2 _ _ h e => ?_)
    · intro i d e
      match i, e with
      | 1, e => cases e; exact ⟨_, rfl, hcell⟩
      | 0, e => cases e
      | 2, e => cases e
      | n + 3, e => simp at e
    · skip
      skip
      refine ⟨_, rfl, (ms.map D.int).length, rfl, by rw [List.length_map]; omega, by simp [nats]; exact Nat.le_trans l1 (by decide), ?_⟩
      refine lc_in (ms.map D.int).length (fun _ => .bl true) (fun k hk mm R hR => ?_) ?_
      · rw [List.length_map] at hk
        exact ⟨_, rfl, _, rfl, ms, k, rfl, rfl, by omega, by omega, by omega, hR⟩
      · exact ⟨List.replicate (ms.map D.int).length true, by rw [range_true], by rw [all_repT]⟩
    · subst e
      rw [Hd.bl] at h
      subst h
      exact q H2
end
end TC
namespace TC
open PySem PySem.Spec PyProof.Rows L2 RZ
set_option maxHeartbeats 4000000 in
theorem all_mk {l : PySem.W.OpenLaw} {w : World} {K : PySem.W.Frag} {h : Heap} {mg : Str → Option Value} {fa : Addr} {fu2 fu3 fu4 fu5 fu6 fu7 fu8 fu9 fu10 fu12 fu13 fu14 fu15 fu16 fu18 fu19 fu20 fu21 fu25 fu26 fu27 fu28 fu29 fu30 fu31 fu32 fu33 fu34 fu35 fu36 fu37 fu38 fu39 fAl fv0 fv1 fv22 fv23 fv11 fv17 fv24 C0 C1 pv0 pv1 pv23 pv11 Tv17 pv24 aE bA bB bE : Addr} {odu2 anu2 odu3 anu3 odu4 anu4 odu5 anu5 odu6 anu6 odu7 anu7 odu8 anu8 odu9 anu9 odu10 anu10 odu12 anu12 odu13 anu13 odu14 anu14 odu15 anu15 odu16 anu16 odu18 anu18 odu19 anu19 odu20 anu20 odu21 anu21 odu25 anu25 odu26 anu26 odu27 anu27 odu28 anu28 odu29 anu29 odu30 anu30 odu31 anu31 odu32 anu32 odu33 anu33 odu34 anu34 odu35 anu35 odu36 anu36 odu37 anu37 odu38 anu38 odu39 anu39 odAl anAl odv0 anv0 odv1 anv1 odv22 anv22 odv23 anv23 odv11 anv11 odv17 anv17 odv24 anv24 : Option Addr} {slu2 slu3 slu4 slu5 slu6 slu7 slu8 slu9 slu10 slu12 slu13 slu14 slu15 slu16 slu18 slu19 slu20 slu21 slu25 slu26 slu27 slu28 slu29 slu30 slu31 slu32 slu33 slu34 slu35 slu36 slu37 slu38 slu39 slAl slv0 slv1 slv22 slv23 slv11 slv17 slv24 : Array (Option Value)} {ocu2 kVu2 dcu2 pmu2 cdu2 ctu2 ocu3 kVu3 dcu3 pmu3 cdu3 ctu3 ocu4 kVu4 dcu4 pmu4 cdu4 ctu4 ocu5 kVu5 dcu5 pmu5 cdu5 ctu5 ocu6 kVu6 dcu6 pmu6 cdu6 ctu6 ocu7 kVu7 dcu7 pmu7 cdu7 ctu7 ocu8 kVu8 dcu8 pmu8 cdu8 ctu8 ocu9 kVu9 dcu9 pmu9 cdu9 ctu9 ocu10 kVu10 dcu10 pmu10 cdu10 ctu10 ocu12 kVu12 dcu12 pmu12 cdu12 ctu12 ocu13 kVu13 dcu13 pmu13 cdu13 ctu13 ocu14 kVu14 dcu14 pmu14 cdu14 ctu14 ocu15 kVu15 dcu15 pmu15 cdu15 ctu15 ocu16 kVu16 dcu16 pmu16 cdu16 ctu16 ocu18 kVu18 dcu18 pmu18 cdu18 ctu18 ocu19 kVu19 dcu19 pmu19 cdu19 ctu19 ocu20 kVu20 dcu20 pmu20 cdu20 ctu20 ocu21 kVu21 dcu21 pmu21 cdu21 ctu21 ocu25 kVu25 dcu25 pmu25 cdu25 ctu25 ocu26 kVu26 dcu26 pmu26 cdu26 ctu26 ocu27 kVu27 dcu27 pmu27 cdu27 ctu27 ocu28 kVu28 dcu28 pmu28 cdu28 ctu28 ocu29 kVu29 dcu29 pmu29 cdu29 ctu29 ocu30 kVu30 dcu30 pmu30 cdu30 ctu30 ocu31 kVu31 dcu31 pmu31 cdu31 ctu31 ocu32 kVu32 dcu32 pmu32 cdu32 ctu32 ocu33 kVu33 dcu33 pmu33 cdu33 ctu33 ocu34 kVu34 dcu34 pmu34 cdu34 ctu34 ocu35 kVu35 dcu35 pmu35 cdu35 ctu35 ocu36 kVu36 dcu36 pmu36 cdu36 ctu36 ocu37 kVu37 dcu37 pmu37 cdu37 ctu37 ocu38 kVu38 dcu38 pmu38 cdu38 ctu38 ocu39 kVu39 dcu39 pmu39 cdu39 ctu39 ocAl kVAl dcAl pmAl cdAl ctAl ocv0 kVv0 dcv0 pmv0 cdv0 ctv0 ocv1 kVv1 dcv1 pmv1 cdv1 ctv1 ocv22 kVv22 dcv22 pmv22 cdv22 ctv22 ocv23 kVv23 dcv23 pmv23 cdv23 ctv23 ocv11 kVv11 dcv11 pmv11 cdv11 ctv11 ocv17 kVv17 dcv17 pmv17 cdv17 ctv17 ocv24 kVv24 dcv24 pmv24 cdv24 ctv24 : Value} {odev17 odE : Option Addr} {nnv17 nnE : Nat} {slev17 slE : Array (Option Value)} {odbA odbB odbE : Option Addr} {nbA nbB nbE : Nat} {slbA slbB slbE : Array (Option Value)} {tkB : Tok} {rrv0 rrv1 rrv23 rrv11 rrv24 : List Value} (X : K.In h) (G : h.Ns mainGlobals mg) (hfa : mg "law" = some (.ref fa))
    (au2 : PySem.W.nsIn K mainGlobals "with_name" = some (some (.ref fu2)))
    (lu2 : K.lookup fu2 = some ⟨ocu2, odu2, .func (PySem.W.fnOf "with_name" "with_name" (defArgs s_with_name) (defBody s_with_name) (defScope s_with_name) .none kVu2 dcu2 pmu2 anu2 cdu2 ctu2), slu2⟩)
    (cu2 : PySem.W.codeIn K cdu2 "with_name" = true)
    (ku2 : PySem.W.keepIn K (.ref fu2) = true)
    (au3 : PySem.W.nsIn K mainGlobals "outside" = some (some (.ref fu3)))
    (lu3 : K.lookup fu3 = some ⟨ocu3, odu3, .func (PySem.W.fnOf "outside" "outside" (defArgs s_outside) (defBody s_outside) (defScope s_outside) .none kVu3 dcu3 pmu3 anu3 cdu3 ctu3), slu3⟩)
    (cu3 : PySem.W.codeIn K cdu3 "outside" = true)
    (ku3 : PySem.W.keepIn K (.ref fu3) = true)
    (au4 : PySem.W.nsIn K mainGlobals "forgotten" = some (some (.ref fu4)))
    (lu4 : K.lookup fu4 = some ⟨ocu4, odu4, .func (PySem.W.fnOf "forgotten" "forgotten" (defArgs s_forgotten) (defBody s_forgotten) (defScope s_forgotten) .none kVu4 dcu4 pmu4 anu4 cdu4 ctu4), slu4⟩)
    (cu4 : PySem.W.codeIn K cdu4 "forgotten" = true)
    (ku4 : PySem.W.keepIn K (.ref fu4) = true)
    (au5 : PySem.W.nsIn K mainGlobals "touched" = some (some (.ref fu5)))
    (lu5 : K.lookup fu5 = some ⟨ocu5, odu5, .func (PySem.W.fnOf "touched" "touched" (defArgs s_touched) (defBody s_touched) (defScope s_touched) .none kVu5 dcu5 pmu5 anu5 cdu5 ctu5), slu5⟩)
    (cu5 : PySem.W.codeIn K cdu5 "touched" = true)
    (ku5 : PySem.W.keepIn K (.ref fu5) = true)
    (au6 : PySem.W.nsIn K mainGlobals "capped" = some (some (.ref fu6)))
    (lu6 : K.lookup fu6 = some ⟨ocu6, odu6, .func (PySem.W.fnOf "capped" "capped" (defArgs s_capped) (defBody s_capped) (defScope s_capped) .none kVu6 dcu6 pmu6 anu6 cdu6 ctu6), slu6⟩)
    (cu6 : PySem.W.codeIn K cdu6 "capped" = true)
    (ku6 : PySem.W.keepIn K (.ref fu6) = true)
    (au7 : PySem.W.nsIn K mainGlobals "row_behind_step" = some (some (.ref fu7)))
    (lu7 : K.lookup fu7 = some ⟨ocu7, odu7, .func (PySem.W.fnOf "row_behind_step" "row_behind_step" (defArgs s_row_behind_step) (defBody s_row_behind_step) (defScope s_row_behind_step) .none kVu7 dcu7 pmu7 anu7 cdu7 ctu7), slu7⟩)
    (cu7 : PySem.W.codeIn K cdu7 "row_behind_step" = true)
    (ku7 : PySem.W.keepIn K (.ref fu7) = true)
    (au8 : PySem.W.nsIn K mainGlobals "told_by" = some (some (.ref fu8)))
    (lu8 : K.lookup fu8 = some ⟨ocu8, odu8, .func (PySem.W.fnOf "told_by" "told_by" (defArgs s_told_by) (defBody s_told_by) (defScope s_told_by) .none kVu8 dcu8 pmu8 anu8 cdu8 ctu8), slu8⟩)
    (cu8 : PySem.W.codeIn K cdu8 "told_by" = true)
    (ku8 : PySem.W.keepIn K (.ref fu8) = true)
    (au9 : PySem.W.nsIn K mainGlobals "tight_chain" = some (some (.ref fu9)))
    (lu9 : K.lookup fu9 = some ⟨ocu9, odu9, .func (PySem.W.fnOf "tight_chain" "tight_chain" (defArgs s_tight_chain) (defBody s_tight_chain) (defScope s_tight_chain) .none kVu9 dcu9 pmu9 anu9 cdu9 ctu9), slu9⟩)
    (cu9 : PySem.W.codeIn K cdu9 "tight_chain" = true)
    (ku9 : PySem.W.keepIn K (.ref fu9) = true)
    (au10 : PySem.W.nsIn K mainGlobals "shape_of" = some (some (.ref fu10)))
    (lu10 : K.lookup fu10 = some ⟨ocu10, odu10, .func (PySem.W.fnOf "shape_of" "shape_of" (defArgs s_shape_of) (defBody s_shape_of) (defScope s_shape_of) .none kVu10 dcu10 pmu10 anu10 cdu10 ctu10), slu10⟩)
    (cu10 : PySem.W.codeIn K cdu10 "shape_of" = true)
    (ku10 : PySem.W.keepIn K (.ref fu10) = true)
    (au12 : PySem.W.nsIn K mainGlobals "form_of" = some (some (.ref fu12)))
    (lu12 : K.lookup fu12 = some ⟨ocu12, odu12, .func (PySem.W.fnOf "form_of" "form_of" (defArgs s_form_of) (defBody s_form_of) (defScope s_form_of) .none kVu12 dcu12 pmu12 anu12 cdu12 ctu12), slu12⟩)
    (cu12 : PySem.W.codeIn K cdu12 "form_of" = true)
    (ku12 : PySem.W.keepIn K (.ref fu12) = true)
    (au13 : PySem.W.nsIn K mainGlobals "is_bounded" = some (some (.ref fu13)))
    (lu13 : K.lookup fu13 = some ⟨ocu13, odu13, .func (PySem.W.fnOf "is_bounded" "is_bounded" (defArgs s_is_bounded) (defBody s_is_bounded) (defScope s_is_bounded) .none kVu13 dcu13 pmu13 anu13 cdu13 ctu13), slu13⟩)
    (cu13 : PySem.W.codeIn K cdu13 "is_bounded" = true)
    (ku13 : PySem.W.keepIn K (.ref fu13) = true)
    (au14 : PySem.W.nsIn K mainGlobals "height_of" = some (some (.ref fu14)))
    (lu14 : K.lookup fu14 = some ⟨ocu14, odu14, .func (PySem.W.fnOf "height_of" "height_of" (defArgs s_height_of) (defBody s_height_of) (defScope s_height_of) .none kVu14 dcu14 pmu14 anu14 cdu14 ctu14), slu14⟩)
    (cu14 : PySem.W.codeIn K cdu14 "height_of" = true)
    (ku14 : PySem.W.keepIn K (.ref fu14) = true)
    (au15 : PySem.W.nsIn K mainGlobals "names_of" = some (some (.ref fu15)))
    (lu15 : K.lookup fu15 = some ⟨ocu15, odu15, .func (PySem.W.fnOf "names_of" "names_of" (defArgs s_names_of) (defBody s_names_of) (defScope s_names_of) .none kVu15 dcu15 pmu15 anu15 cdu15 ctu15), slu15⟩)
    (cu15 : PySem.W.codeIn K cdu15 "names_of" = true)
    (ku15 : PySem.W.keepIn K (.ref fu15) = true)
    (au16 : PySem.W.nsIn K mainGlobals "height" = some (some (.ref fu16)))
    (lu16 : K.lookup fu16 = some ⟨ocu16, odu16, .func (PySem.W.fnOf "height" "height" (defArgs s_height) (defBody s_height) (defScope s_height) .none kVu16 dcu16 pmu16 anu16 cdu16 ctu16), slu16⟩)
    (cu16 : PySem.W.codeIn K cdu16 "height" = true)
    (ku16 : PySem.W.keepIn K (.ref fu16) = true)
    (au18 : PySem.W.nsIn K mainGlobals "is_numeral" = some (some (.ref fu18)))
    (lu18 : K.lookup fu18 = some ⟨ocu18, odu18, .func (PySem.W.fnOf "is_numeral" "is_numeral" (defArgs s_is_numeral) (defBody s_is_numeral) (defScope s_is_numeral) .none kVu18 dcu18 pmu18 anu18 cdu18 ctu18), slu18⟩)
    (cu18 : PySem.W.codeIn K cdu18 "is_numeral" = true)
    (ku18 : PySem.W.keepIn K (.ref fu18) = true)
    (au19 : PySem.W.nsIn K mainGlobals "is_number" = some (some (.ref fu19)))
    (lu19 : K.lookup fu19 = some ⟨ocu19, odu19, .func (PySem.W.fnOf "is_number" "is_number" (defArgs s_is_number) (defBody s_is_number) (defScope s_is_number) .none kVu19 dcu19 pmu19 anu19 cdu19 ctu19), slu19⟩)
    (cu19 : PySem.W.codeIn K cdu19 "is_number" = true)
    (ku19 : PySem.W.keepIn K (.ref fu19) = true)
    (au20 : PySem.W.nsIn K mainGlobals "is_name" = some (some (.ref fu20)))
    (lu20 : K.lookup fu20 = some ⟨ocu20, odu20, .func (PySem.W.fnOf "is_name" "is_name" (defArgs s_is_name) (defBody s_is_name) (defScope s_is_name) .none kVu20 dcu20 pmu20 anu20 cdu20 ctu20), slu20⟩)
    (cu20 : PySem.W.codeIn K cdu20 "is_name" = true)
    (ku20 : PySem.W.keepIn K (.ref fu20) = true)
    (au21 : PySem.W.nsIn K mainGlobals "is_step" = some (some (.ref fu21)))
    (lu21 : K.lookup fu21 = some ⟨ocu21, odu21, .func (PySem.W.fnOf "is_step" "is_step" (defArgs s_is_step) (defBody s_is_step) (defScope s_is_step) .none kVu21 dcu21 pmu21 anu21 cdu21 ctu21), slu21⟩)
    (cu21 : PySem.W.codeIn K cdu21 "is_step" = true)
    (ku21 : PySem.W.keepIn K (.ref fu21) = true)
    (au25 : PySem.W.nsIn K mainGlobals "_law_same" = some (some (.ref fu25)))
    (lu25 : K.lookup fu25 = some ⟨ocu25, odu25, .func (PySem.W.fnOf "_law_same" "_law_same" (defArgs s__law_same) (defBody s__law_same) (defScope s__law_same) .none kVu25 dcu25 pmu25 anu25 cdu25 ctu25), slu25⟩)
    (cu25 : PySem.W.codeIn K cdu25 "_law_same" = true)
    (ku25 : PySem.W.keepIn K (.ref fu25) = true)
    (au26 : PySem.W.nsIn K mainGlobals "_law_by_hand_right" = some (some (.ref fu26)))
    (lu26 : K.lookup fu26 = some ⟨ocu26, odu26, .func (PySem.W.fnOf "_law_by_hand_right" "_law_by_hand_right" (defArgs s__law_by_hand_right) (defBody s__law_by_hand_right) (defScope s__law_by_hand_right) .none kVu26 dcu26 pmu26 anu26 cdu26 ctu26), slu26⟩)
    (cu26 : PySem.W.codeIn K cdu26 "_law_by_hand_right" = true)
    (ku26 : PySem.W.keepIn K (.ref fu26) = true)
    (au27 : PySem.W.nsIn K mainGlobals "_law_take" = some (some (.ref fu27)))
    (lu27 : K.lookup fu27 = some ⟨ocu27, odu27, .func (PySem.W.fnOf "_law_take" "_law_take" (defArgs sTake) (defBody sTake) (defScope sTake) .none kVu27 dcu27 pmu27 anu27 cdu27 ctu27), slu27⟩)
    (cu27 : PySem.W.codeIn K cdu27 "_law_take" = true)
    (ku27 : PySem.W.keepIn K (.ref fu27) = true)
    (au28 : PySem.W.nsIn K mainGlobals "_law_of" = some (some (.ref fu28)))
    (lu28 : K.lookup fu28 = some ⟨ocu28, odu28, .func (PySem.W.fnOf "_law_of" "_law_of" (defArgs s__law_of) (defBody s__law_of) (defScope s__law_of) .none kVu28 dcu28 pmu28 anu28 cdu28 ctu28), slu28⟩)
    (cu28 : PySem.W.codeIn K cdu28 "_law_of" = true)
    (ku28 : PySem.W.keepIn K (.ref fu28) = true)
    (au29 : PySem.W.nsIn K mainGlobals "_law_mixed" = some (some (.ref fu29)))
    (lu29 : K.lookup fu29 = some ⟨ocu29, odu29, .func (PySem.W.fnOf "_law_mixed" "_law_mixed" (defArgs s__law_mixed) (defBody s__law_mixed) (defScope s__law_mixed) .none kVu29 dcu29 pmu29 anu29 cdu29 ctu29), slu29⟩)
    (cu29 : PySem.W.codeIn K cdu29 "_law_mixed" = true)
    (ku29 : PySem.W.keepIn K (.ref fu29) = true)
    (au30 : PySem.W.nsIn K mainGlobals "_law_tags" = some (some (.ref fu30)))
    (lu30 : K.lookup fu30 = some ⟨ocu30, odu30, .func (PySem.W.fnOf "_law_tags" "_law_tags" (defArgs s__law_tags) (defBody s__law_tags) (defScope s__law_tags) .none kVu30 dcu30 pmu30 anu30 cdu30 ctu30), slu30⟩)
    (cu30 : PySem.W.codeIn K cdu30 "_law_tags" = true)
    (ku30 : PySem.W.keepIn K (.ref fu30) = true)
    (au31 : PySem.W.nsIn K mainGlobals "_law_line" = some (some (.ref fu31)))
    (lu31 : K.lookup fu31 = some ⟨ocu31, odu31, .func (PySem.W.fnOf "_law_line" "_law_line" (defArgs s__law_line) (defBody s__law_line) (defScope s__law_line) .none kVu31 dcu31 pmu31 anu31 cdu31 ctu31), slu31⟩)
    (cu31 : PySem.W.codeIn K cdu31 "_law_line" = true)
    (ku31 : PySem.W.keepIn K (.ref fu31) = true)
    (au32 : PySem.W.nsIn K mainGlobals "_law_known" = some (some (.ref fu32)))
    (lu32 : K.lookup fu32 = some ⟨ocu32, odu32, .func (PySem.W.fnOf "_law_known" "_law_known" (defArgs s__law_known) (defBody s__law_known) (defScope s__law_known) .none kVu32 dcu32 pmu32 anu32 cdu32 ctu32), slu32⟩)
    (cu32 : PySem.W.codeIn K cdu32 "_law_known" = true)
    (ku32 : PySem.W.keepIn K (.ref fu32) = true)
    (au33 : PySem.W.nsIn K mainGlobals "_law_apart" = some (some (.ref fu33)))
    (lu33 : K.lookup fu33 = some ⟨ocu33, odu33, .func (PySem.W.fnOf "_law_apart" "_law_apart" (defArgs s__law_apart) (defBody s__law_apart) (defScope s__law_apart) .none kVu33 dcu33 pmu33 anu33 cdu33 ctu33), slu33⟩)
    (cu33 : PySem.W.codeIn K cdu33 "_law_apart" = true)
    (ku33 : PySem.W.keepIn K (.ref fu33) = true)
    (au34 : PySem.W.nsIn K mainGlobals "_law_reach" = some (some (.ref fu34)))
    (lu34 : K.lookup fu34 = some ⟨ocu34, odu34, .func (PySem.W.fnOf "_law_reach" "_law_reach" (defArgs s__law_reach) (defBody s__law_reach) (defScope s__law_reach) .none kVu34 dcu34 pmu34 anu34 cdu34 ctu34), slu34⟩)
    (cu34 : PySem.W.codeIn K cdu34 "_law_reach" = true)
    (ku34 : PySem.W.keepIn K (.ref fu34) = true)
    (au35 : PySem.W.nsIn K mainGlobals "_law_height" = some (some (.ref fu35)))
    (lu35 : K.lookup fu35 = some ⟨ocu35, odu35, .func (PySem.W.fnOf "_law_height" "_law_height" (defArgs s__law_height) (defBody s__law_height) (defScope s__law_height) .none kVu35 dcu35 pmu35 anu35 cdu35 ctu35), slu35⟩)
    (cu35 : PySem.W.codeIn K cdu35 "_law_height" = true)
    (ku35 : PySem.W.keepIn K (.ref fu35) = true)
    (au36 : PySem.W.nsIn K mainGlobals "_law_host" = some (some (.ref fu36)))
    (lu36 : K.lookup fu36 = some ⟨ocu36, odu36, .func (PySem.W.fnOf "_law_host" "_law_host" (defArgs s__law_host) (defBody s__law_host) (defScope s__law_host) .none kVu36 dcu36 pmu36 anu36 cdu36 ctu36), slu36⟩)
    (cu36 : PySem.W.codeIn K cdu36 "_law_host" = true)
    (ku36 : PySem.W.keepIn K (.ref fu36) = true)
    (au37 : PySem.W.nsIn K mainGlobals "_law_right" = some (some (.ref fu37)))
    (lu37 : K.lookup fu37 = some ⟨ocu37, odu37, .func (PySem.W.fnOf "_law_right" "_law_right" (defArgs s__law_right) (defBody s__law_right) (defScope s__law_right) .none kVu37 dcu37 pmu37 anu37 cdu37 ctu37), slu37⟩)
    (cu37 : PySem.W.codeIn K cdu37 "_law_right" = true)
    (ku37 : PySem.W.keepIn K (.ref fu37) = true)
    (au38 : PySem.W.nsIn K mainGlobals "_law_box" = some (some (.ref fu38)))
    (lu38 : K.lookup fu38 = some ⟨ocu38, odu38, .func (PySem.W.fnOf "_law_box" "_law_box" (defArgs sBox) (defBody sBox) (defScope sBox) .none kVu38 dcu38 pmu38 anu38 cdu38 ctu38), slu38⟩)
    (cu38 : PySem.W.codeIn K cdu38 "_law_box" = true)
    (ku38 : PySem.W.keepIn K (.ref fu38) = true)
    (au39 : PySem.W.nsIn K mainGlobals "_law_cells" = some (some (.ref fu39)))
    (lu39 : K.lookup fu39 = some ⟨ocu39, odu39, .func (PySem.W.fnOf "_law_cells" "_law_cells" (defArgs sCells) (defBody sCells) (defScope sCells) .none kVu39 dcu39 pmu39 anu39 cdu39 ctu39), slu39⟩)
    (cu39 : PySem.W.codeIn K cdu39 "_law_cells" = true)
    (ku39 : PySem.W.keepIn K (.ref fu39) = true)
    (aAl : PySem.W.nsIn K mainGlobals "law" = some (some (.ref fAl)))
    (lAl : K.lookup fAl = some ⟨ocAl, odAl, .func (PySem.W.fnOf "law" "law" (defArgs s_law) (defBody s_law) (defScope s_law) .none kVAl dcAl pmAl anAl cdAl ctAl), slAl⟩)
    (cAl : PySem.W.codeIn K cdAl "law" = true)
    (kAl : PySem.W.keepIn K (.ref fAl) = true)
    (aCC0 : PySem.W.nsIn K mainGlobals "Step" = some (some (.ref C0)))
    (pgC0 : PySem.W.plainGet K C0 Str.empty = true)
    (hdC0 : PySem.W.hasDictIn K C0 = true)
    (poC0 : PySem.W.plainOver K C0 = true)
    (saC0 : PySem.W.findIn K (.ref C0) "__setattr__" = some (some (.builtin "object.__setattr__")))
    (mkC0 : PySem.W.makesIn K C0 = true)
    (kcC0 : PySem.W.keepIn K (.ref C0) = true)
    (rdC0 : PySem.W.readsIn K C0 (.type "type") = true)
    (gaC0 : PySem.W.specialIn K (.ref C0) "__getattribute__" = some (some (.builtin "type.__getattribute__")))
    (jaC0 : PySem.W.findIn K (.ref C0) "__class__" = some (some (.builtin "object.__class__")))
    (jmC0 : PySem.W.mroIn K C0 (.type "object") = some true)
    (e1C0 : (Value.ref C0 == Value.ref C1) = false)
    (m1C0 : PySem.W.mroIn K C0 (.ref C1) = some false)
    (t1C0 : PySem.W.typeIn K (.ref C1) = some (.type "type"))
    (n0C0 : PySem.W.findIn K (.ref C0) "_kind" = some none)
    (n1C0 : PySem.W.findIn K (.ref C0) "_what" = some none)
    (aCC1 : PySem.W.nsIn K mainGlobals "Rule" = some (some (.ref C1)))
    (pgC1 : PySem.W.plainGet K C1 Str.empty = true)
    (hdC1 : PySem.W.hasDictIn K C1 = true)
    (poC1 : PySem.W.plainOver K C1 = true)
    (saC1 : PySem.W.findIn K (.ref C1) "__setattr__" = some (some (.builtin "object.__setattr__")))
    (mkC1 : PySem.W.makesIn K C1 = true)
    (kcC1 : PySem.W.keepIn K (.ref C1) = true)
    (rdC1 : PySem.W.readsIn K C1 (.type "type") = true)
    (gaC1 : PySem.W.specialIn K (.ref C1) "__getattribute__" = some (some (.builtin "type.__getattribute__")))
    (jaC1 : PySem.W.findIn K (.ref C1) "__class__" = some (some (.builtin "object.__class__")))
    (jmC1 : PySem.W.mroIn K C1 (.type "object") = some true)
    (e0C1 : (Value.ref C1 == Value.ref C0) = false)
    (m0C1 : PySem.W.mroIn K C1 (.ref C0) = some false)
    (t0C1 : PySem.W.typeIn K (.ref C0) = some (.type "type"))
    (n0C1 : PySem.W.findIn K (.ref C1) "_steps" = some none)
    (av0 : PySem.W.findIn K (.ref C0) "kind" = some (some (.ref pv0)))
    (gv0 : PySem.W.specialIn K (.ref pv0) "__get__" = some (some (.builtin "property.__get__")))
    (tv0 : PySem.W.takesIn K (.ref pv0) = some true)
    (rv0 : PySem.W.recIn K pv0 "property" = some (.ref fv0 :: rrv0))
    (lv0 : K.lookup fv0 = some ⟨ocv0, odv0, .func (PySem.W.fnOf "kind" "Step.kind" (defArgs s_Step__d__kind) (defBody s_Step__d__kind) (defScope s_Step__d__kind) .none kVv0 dcv0 pmv0 anv0 cdv0 ctv0), slv0⟩)
    (cv0 : PySem.W.codeIn K cdv0 "Step.kind" = true)
    (kv0 : PySem.W.keepIn K (.ref fv0) = true)
    (av1 : PySem.W.findIn K (.ref C0) "what" = some (some (.ref pv1)))
    (gv1 : PySem.W.specialIn K (.ref pv1) "__get__" = some (some (.builtin "property.__get__")))
    (tv1 : PySem.W.takesIn K (.ref pv1) = some true)
    (rv1 : PySem.W.recIn K pv1 "property" = some (.ref fv1 :: rrv1))
    (lv1 : K.lookup fv1 = some ⟨ocv1, odv1, .func (PySem.W.fnOf "what" "Step.what" (defArgs s_Step__d__what) (defBody s_Step__d__what) (defScope s_Step__d__what) .none kVv1 dcv1 pmv1 anv1 cdv1 ctv1), slv1⟩)
    (cv1 : PySem.W.codeIn K cdv1 "Step.what" = true)
    (kv1 : PySem.W.keepIn K (.ref fv1) = true)
    (av22 : PySem.W.findIn K (.ref C0) "__init__" = some (some (.ref fv22)))
    (iv22 : PySem.W.isFn K (.ref fv22) = true)
    (lv22 : K.lookup fv22 = some ⟨ocv22, odv22, .func (PySem.W.fnOf "__init__" "Step.__init__" (defArgs s_Step__d____init__) (defBody s_Step__d____init__) (defScope s_Step__d____init__) .none kVv22 dcv22 pmv22 anv22 cdv22 ctv22), slv22⟩)
    (cv22 : PySem.W.codeIn K cdv22 "Step.__init__" = true)
    (kv22 : PySem.W.keepIn K (.ref fv22) = true)
    (av23 : PySem.W.findCls K (.ref C0) (.type "type") "of" = some (.get (.builtin "staticmethod.__get__") (.ref pv23) .none (.ref C0)))
    (rv23 : PySem.W.recIn K pv23 "staticmethod" = some (.ref fv23 :: rrv23))
    (lv23 : K.lookup fv23 = some ⟨ocv23, odv23, .func (PySem.W.fnOf "of" "Step.of" (defArgs s_Step__d__of) (defBody s_Step__d__of) (defScope s_Step__d__of) .none kVv23 dcv23 pmv23 anv23 cdv23 ctv23), slv23⟩)
    (cv23 : PySem.W.codeIn K cdv23 "Step.of" = true)
    (kv23 : PySem.W.keepIn K (.ref fv23) = true)
    (av11 : PySem.W.findIn K (.ref C1) "steps" = some (some (.ref pv11)))
    (gv11 : PySem.W.specialIn K (.ref pv11) "__get__" = some (some (.builtin "property.__get__")))
    (tv11 : PySem.W.takesIn K (.ref pv11) = some true)
    (rv11 : PySem.W.recIn K pv11 "property" = some (.ref fv11 :: rrv11))
    (lv11 : K.lookup fv11 = some ⟨ocv11, odv11, .func (PySem.W.fnOf "steps" "Rule.steps" (defArgs s_Rule__d__steps) (defBody s_Rule__d__steps) (defScope s_Rule__d__steps) .none kVv11 dcv11 pmv11 anv11 cdv11 ctv11), slv11⟩)
    (cv11 : PySem.W.codeIn K cdv11 "Rule.steps" = true)
    (kv11 : PySem.W.keepIn K (.ref fv11) = true)
    (av17 : PySem.W.findIn K (.ref C1) "__init__" = some (some (.ref fv17)))
    (iv17 : PySem.W.isFn K (.ref fv17) = true)
    (lv17 : K.lookup fv17 = some ⟨ocv17, odv17, .func (PySem.W.fnOf "__init__" "Rule.__init__" (defArgs s_Rule__d____init__) (defBody s_Rule__d____init__) (defScope s_Rule__d____init__) (.ref Tv17) kVv17 dcv17 pmv17 anv17 cdv17 ctv17), slv17⟩)
    (cv17 : PySem.W.codeIn K cdv17 "Rule.__init__" = true)
    (kv17 : PySem.W.keepIn K (.ref fv17) = true)
    (dv17 : K.lookup Tv17 = some ⟨.type "tuple", odev17, .seq #[.ref aE] nnv17, slev17⟩)
    (av24 : PySem.W.findCls K (.ref C1) (.type "type") "of" = some (.get (.builtin "staticmethod.__get__") (.ref pv24) .none (.ref C1)))
    (rv24 : PySem.W.recIn K pv24 "staticmethod" = some (.ref fv24 :: rrv24))
    (lv24 : K.lookup fv24 = some ⟨ocv24, odv24, .func (PySem.W.fnOf "of" "Rule.of" (defArgs s_Rule__d__of) (defBody s_Rule__d__of) (defScope s_Rule__d__of) .none kVv24 dcv24 pmv24 anv24 cdv24 ctv24), slv24⟩)
    (cv24 : PySem.W.codeIn K cdv24 "Rule.of" = true)
    (kv24 : PySem.W.keepIn K (.ref fv24) = true)
    (lE : K.lookup aE = some ⟨.type "tuple", odE, .seq #[] nnE, slE⟩)
    (jn : PySem.W.specialIn K (.builtin "object.__class__") "__get__" = some (some (.builtin "getset_descriptor.__get__")))
    (jt : PySem.W.takesIn K (.builtin "object.__class__") = some true)
    (gB : PySem.W.nsIn K mainGlobals "CONSTANT_BOUNDS" = some (some (.ref bA)))
    (tbA : K.lookup bA = some ⟨.type "tuple", odbA, .seq #[.ref bB] nbA, slbA⟩)
    (tbB : K.lookup bB = some ⟨.type "tuple", odbB, .seq #[.ref bE, .int 0 tkB] nbB, slbB⟩)
    (tbE : K.lookup bE = some ⟨.type "tuple", odbE, .seq #[] nbE, slbE⟩)
    (ztuple : PySem.W.nsIn K mainGlobals "tuple" = some none)
    (zlist : PySem.W.nsIn K mainGlobals "list" = some none)
    (zint : PySem.W.nsIn K mainGlobals "int" = some none)
    (zlen : PySem.W.nsIn K mainGlobals "len" = some none)
    (zabs : PySem.W.nsIn K mainGlobals "abs" = some none)
    (zall : PySem.W.nsIn K mainGlobals "all" = some none)
    (zmax : PySem.W.nsIn K mainGlobals "max" = some none)
    (zrange : PySem.W.nsIn K mainGlobals "range" = some none)
    (zzip : PySem.W.nsIn K mainGlobals "zip" = some none)
    (zenumerate : PySem.W.nsIn K mainGlobals "enumerate" = some none)
    (zisinstance : PySem.W.nsIn K mainGlobals "isinstance" = some none)
    (zbool : PySem.W.nsIn K mainGlobals "bool" = some none)
    (zstr : PySem.W.nsIn K mainGlobals "str" = some none)
    (zsorted : PySem.W.nsIn K mainGlobals "sorted" = some none)
    (zset : PySem.W.nsIn K mainGlobals "set" = some none)
    (zmin : PySem.W.nsIn K mainGlobals "min" = some none)
    (zany : PySem.W.nsIn K mainGlobals "any" = some none)
    (zsum : PySem.W.nsIn K mainGlobals "sum" = some none) :
    ∃ fd : FuncData, (∀ (s : Shared) (v : Value), BindsTo s fd ⟨[v], []⟩ [("_law_script", v)]) ∧ ∀ base : Heap, K.In base → base.Ns mainGlobals mg → FnOk l.prog w K mg base CX0 10 fa fd ["_law_script"] (spLaw K) := by
  have e := hfa.symm.trans (PySem.W.mg_of X G aAl)
  cases e
  have T : Blt mg := ⟨PySem.W.mg_none_of X G ztuple, PySem.W.mg_none_of X G zlist, PySem.W.mg_none_of X G zint, PySem.W.mg_none_of X G zlen, PySem.W.mg_none_of X G zabs, PySem.W.mg_none_of X G zall, PySem.W.mg_none_of X G zmax, PySem.W.mg_none_of X G zrange, PySem.W.mg_none_of X G zzip, PySem.W.mg_none_of X G zenumerate, PySem.W.mg_none_of X G zisinstance, PySem.W.mg_none_of X G zbool, PySem.W.mg_none_of X G zstr, PySem.W.mg_none_of X G zsorted, PySem.W.mg_none_of X G zset, PySem.W.mg_none_of X G zmin, PySem.W.mg_none_of X G zany, PySem.W.mg_none_of X G zsum⟩
  letI : Cl := ⟨fun n => match n with | 0 => (C0, ["_kind", "_what"]) | _ => (C1, ["_steps"]), aE, K⟩
  have Fu2 := fun_mk (st := s_with_name) lu2 cu2 ku2
  have Fu3 := fun_mk (st := s_outside) lu3 cu3 ku3
  have Fu4 := fun_mk (st := s_forgotten) lu4 cu4 ku4
  have Fu5 := fun_mk (st := s_touched) lu5 cu5 ku5
  have Fu6 := fun_mk (st := s_capped) lu6 cu6 ku6
  have Fu7 := fun_mk (st := s_row_behind_step) lu7 cu7 ku7
  have Fu8 := fun_mk (st := s_told_by) lu8 cu8 ku8
  have Fu9 := fun_mk (st := s_tight_chain) lu9 cu9 ku9
  have Fu10 := fun_mk (st := s_shape_of) lu10 cu10 ku10
  have Fu12 := fun_mk (st := s_form_of) lu12 cu12 ku12
  have Fu13 := fun_mk (st := s_is_bounded) lu13 cu13 ku13
  have Fu14 := fun_mk (st := s_height_of) lu14 cu14 ku14
  have Fu15 := fun_mk (st := s_names_of) lu15 cu15 ku15
  have Fu16 := fun_mk (st := s_height) lu16 cu16 ku16
  have Fu18 := fun_mk (st := s_is_numeral) lu18 cu18 ku18
  have Fu19 := fun_mk (st := s_is_number) lu19 cu19 ku19
  have Fu20 := fun_mk (st := s_is_name) lu20 cu20 ku20
  have Fu21 := fun_mk (st := s_is_step) lu21 cu21 ku21
  have Fu25 := fun_mk (st := s__law_same) lu25 cu25 ku25
  have Fu26 := fun_mk (st := s__law_by_hand_right) lu26 cu26 ku26
  have Fu27 := fun_mk (st := sTake) lu27 cu27 ku27
  have Fu28 := fun_mk (st := s__law_of) lu28 cu28 ku28
  have Fu29 := fun_mk (st := s__law_mixed) lu29 cu29 ku29
  have Fu30 := fun_mk (st := s__law_tags) lu30 cu30 ku30
  have Fu31 := fun_mk (st := s__law_line) lu31 cu31 ku31
  have Fu32 := fun_mk (st := s__law_known) lu32 cu32 ku32
  have Fu33 := fun_mk (st := s__law_apart) lu33 cu33 ku33
  have Fu34 := fun_mk (st := s__law_reach) lu34 cu34 ku34
  have Fu35 := fun_mk (st := s__law_height) lu35 cu35 ku35
  have Fu36 := fun_mk (st := s__law_host) lu36 cu36 ku36
  have Fu37 := fun_mk (st := s__law_right) lu37 cu37 ku37
  have Fu38 := fun_mk (st := sBox) lu38 cu38 ku38
  have Fu39 := fun_mk (st := sCells) lu39 cu39 ku39
  have FAl := fun_mk (st := s_law) lAl cAl kAl
  have Fv0 := fun_mk (st := s_Step__d__kind) lv0 cv0 kv0
  have Fv1 := fun_mk (st := s_Step__d__what) lv1 cv1 kv1
  have Fv22 := fun_mk (st := s_Step__d____init__) lv22 cv22 kv22
  have Fv23 := fun_mk (st := s_Step__d__of) lv23 cv23 kv23
  have Fv11 := fun_mk (st := s_Rule__d__steps) lv11 cv11 kv11
  have Fv17 : FunD K "__init__" "Rule.__init__" (defArgs s_Rule__d____init__) (defBody s_Rule__d____init__) (defScope s_Rule__d____init__) [V.ref Cl.e0] [] fv17 _ := ⟨⟨_, _, _, _, _, _, _, _, _, _, rfl, lv17, cv17, .inr ⟨by simp, Tv17, _, [.ref aE], _, rfl, dv17, rfl, .cons rfl .nil⟩, .inl rfl⟩, kv17⟩
  have Fv24 := fun_mk (st := s_Rule__d__of) lv24 cv24 kv24
  have Au2 : At K mg "with_name" s_with_name ["names", "name"] fu2 _ := ⟨Fu2, PySem.W.mg_of X G au2, (Fu2.binds (ps := ["names", "name"]) fun _ _ _ _ _ _ us hl => match us, hl with | [_, _], _ => rfl)⟩
  have Au3 : At K mg "outside" s_outside ["row", "names"] fu3 _ := ⟨Fu3, PySem.W.mg_of X G au3, (Fu3.binds (ps := ["row", "names"]) fun _ _ _ _ _ _ us hl => match us, hl with | [_, _], _ => rfl)⟩
  have Au4 : At K mg "forgotten" s_forgotten ["row", "name"] fu4 _ := ⟨Fu4, PySem.W.mg_of X G au4, (Fu4.binds (ps := ["row", "name"]) fun _ _ _ _ _ _ us hl => match us, hl with | [_, _], _ => rfl)⟩
  have Au5 : At K mg "touched" s_touched ["row", "name"] fu5 _ := ⟨Fu5, PySem.W.mg_of X G au5, (Fu5.binds (ps := ["row", "name"]) fun _ _ _ _ _ _ us hl => match us, hl with | [_, _], _ => rfl)⟩
  have Au6 : At K mg "capped" s_capped ["row", "number"] fu6 _ := ⟨Fu6, PySem.W.mg_of X G au6, (Fu6.binds (ps := ["row", "number"]) fun _ _ _ _ _ _ us hl => match us, hl with | [_, _], _ => rfl)⟩
  have Au7 : At K mg "row_behind_step" s_row_behind_step ["kind", "what", "row"] fu7 _ := ⟨Fu7, PySem.W.mg_of X G au7, (Fu7.binds (ps := ["kind", "what", "row"]) fun _ _ _ _ _ _ us hl => match us, hl with | [_, _, _], _ => rfl)⟩
  have Au8 : At K mg "told_by" s_told_by ["steps"] fu8 _ := ⟨Fu8, PySem.W.mg_of X G au8, (Fu8.binds (ps := ["steps"]) fun _ _ _ _ _ _ us hl => match us, hl with | [_], _ => rfl)⟩
  have Au9 : At K mg "tight_chain" s_tight_chain ["bounds"] fu9 _ := ⟨Fu9, PySem.W.mg_of X G au9, (Fu9.binds (ps := ["bounds"]) fun _ _ _ _ _ _ us hl => match us, hl with | [_], _ => rfl)⟩
  have Au10 : At K mg "shape_of" s_shape_of ["steps"] fu10 _ := ⟨Fu10, PySem.W.mg_of X G au10, (Fu10.binds (ps := ["steps"]) fun _ _ _ _ _ _ us hl => match us, hl with | [_], _ => rfl)⟩
  have Au12 : At K mg "form_of" s_form_of ["rule"] fu12 _ := ⟨Fu12, PySem.W.mg_of X G au12, (Fu12.binds (ps := ["rule"]) fun _ _ _ _ _ _ us hl => match us, hl with | [_], _ => rfl)⟩
  have Au13 : At K mg "is_bounded" s_is_bounded ["form"] fu13 _ := ⟨Fu13, PySem.W.mg_of X G au13, (Fu13.binds (ps := ["form"]) fun _ _ _ _ _ _ us hl => match us, hl with | [_], _ => rfl)⟩
  have Au14 : At K mg "height_of" s_height_of ["chain", "many"] fu14 _ := ⟨Fu14, PySem.W.mg_of X G au14, (Fu14.binds (ps := ["chain", "many"]) fun _ _ _ _ _ _ us hl => match us, hl with | [_, _], _ => rfl)⟩
  have Au15 : At K mg "names_of" s_names_of ["form"] fu15 _ := ⟨Fu15, PySem.W.mg_of X G au15, (Fu15.binds (ps := ["form"]) fun _ _ _ _ _ _ us hl => match us, hl with | [_], _ => rfl)⟩
  have Au16 : At K mg "height" s_height ["p"] fu16 _ := ⟨Fu16, PySem.W.mg_of X G au16, (Fu16.binds (ps := ["p"]) fun _ _ _ _ _ _ us hl => match us, hl with | [_], _ => rfl)⟩
  have Au18 : At K mg "is_numeral" s_is_numeral ["text"] fu18 _ := ⟨Fu18, PySem.W.mg_of X G au18, (Fu18.binds (ps := ["text"]) fun _ _ _ _ _ _ us hl => match us, hl with | [_], _ => rfl)⟩
  have Au19 : At K mg "is_number" s_is_number ["thing"] fu19 _ := ⟨Fu19, PySem.W.mg_of X G au19, (Fu19.binds (ps := ["thing"]) fun _ _ _ _ _ _ us hl => match us, hl with | [_], _ => rfl)⟩
  have Au20 : At K mg "is_name" s_is_name ["thing"] fu20 _ := ⟨Fu20, PySem.W.mg_of X G au20, (Fu20.binds (ps := ["thing"]) fun _ _ _ _ _ _ us hl => match us, hl with | [_], _ => rfl)⟩
  have Au21 : At K mg "is_step" s_is_step ["kind", "what"] fu21 _ := ⟨Fu21, PySem.W.mg_of X G au21, (Fu21.binds (ps := ["kind", "what"]) fun _ _ _ _ _ _ us hl => match us, hl with | [_, _], _ => rfl)⟩
  have Au25 : At K mg "_law_same" s__law_same ["_law_got", "_law_goal"] fu25 _ := ⟨Fu25, PySem.W.mg_of X G au25, (Fu25.binds (ps := ["_law_got", "_law_goal"]) fun _ _ _ _ _ _ us hl => match us, hl with | [_, _], _ => rfl)⟩
  have Au26 : At K mg "_law_by_hand_right" s__law_by_hand_right [] fu26 _ := ⟨Fu26, PySem.W.mg_of X G au26, (Fu26.binds (ps := []) fun _ _ _ _ _ _ us hl => match us, hl with | [], _ => rfl)⟩
  have Au27 : At K mg "_law_take" sTake ["_law_urn", "_law_low_so"] fu27 _ := ⟨Fu27, PySem.W.mg_of X G au27, (Fu27.binds (ps := ["_law_urn", "_law_low_so"]) fun _ _ _ _ _ _ us hl => match us, hl with | [_, _], _ => rfl)⟩
  have Au28 : At K mg "_law_of" s__law_of ["_law_urn", "_law_some_so"] fu28 _ := ⟨Fu28, PySem.W.mg_of X G au28, (Fu28.binds (ps := ["_law_urn", "_law_some_so"]) fun _ _ _ _ _ _ us hl => match us, hl with | [_, _], _ => rfl)⟩
  have Au29 : At K mg "_law_mixed" s__law_mixed ["_law_urn", "_law_pool"] fu29 _ := ⟨Fu29, PySem.W.mg_of X G au29, (Fu29.binds (ps := ["_law_urn", "_law_pool"]) fun _ _ _ _ _ _ us hl => match us, hl with | [_, _], _ => rfl)⟩
  have Au30 : At K mg "_law_tags" s__law_tags ["_law_urn", "_law_size_so"] fu30 _ := ⟨Fu30, PySem.W.mg_of X G au30, (Fu30.binds (ps := ["_law_urn", "_law_size_so"]) fun _ _ _ _ _ _ us hl => match us, hl with | [_, _], _ => rfl)⟩
  have Au31 : At K mg "_law_line" s__law_line ["_law_urn", "_law_tags_here", "_law_many_so", "_law_high_so"] fu31 _ := ⟨Fu31, PySem.W.mg_of X G au31, (Fu31.binds (ps := ["_law_urn", "_law_tags_here", "_law_many_so", "_law_high_so"]) fun _ _ _ _ _ _ us hl => match us, hl with | [_, _, _, _], _ => rfl)⟩
  have Au32 : At K mg "_law_known" s__law_known ["_law_mat"] fu32 _ := ⟨Fu32, PySem.W.mg_of X G au32, (Fu32.binds (ps := ["_law_mat"]) fun _ _ _ _ _ _ us hl => match us, hl with | [_], _ => rfl)⟩
  have Au33 : At K mg "_law_apart" s__law_apart ["_law_some", "_law_far"] fu33 _ := ⟨Fu33, PySem.W.mg_of X G au33, (Fu33.binds (ps := ["_law_some", "_law_far"]) fun _ _ _ _ _ _ us hl => match us, hl with | [_, _], _ => rfl)⟩
  have Au34 : At K mg "_law_reach" s__law_reach ["_law_rows_so", "_law_some"] fu34 _ := ⟨Fu34, PySem.W.mg_of X G au34, (Fu34.binds (ps := ["_law_rows_so", "_law_some"]) fun _ _ _ _ _ _ us hl => match us, hl with | [_, _], _ => rfl)⟩
  have Au35 : At K mg "_law_height" s__law_height ["_law_mat"] fu35 _ := ⟨Fu35, PySem.W.mg_of X G au35, (Fu35.binds (ps := ["_law_mat"]) fun _ _ _ _ _ _ us hl => match us, hl with | [_], _ => rfl)⟩
  have Au36 : At K mg "_law_host" s__law_host ["_law_mat"] fu36 _ := ⟨Fu36, PySem.W.mg_of X G au36, (Fu36.binds (ps := ["_law_mat"]) fun _ _ _ _ _ _ us hl => match us, hl with | [_], _ => rfl)⟩
  have Au37 : At K mg "_law_right" s__law_right ["_law_urn"] fu37 _ := ⟨Fu37, PySem.W.mg_of X G au37, (Fu37.binds (ps := ["_law_urn"]) fun _ _ _ _ _ _ us hl => match us, hl with | [_], _ => rfl)⟩
  have Au38 : At K mg "_law_box" sBox ["_law_script", "_law_k"] fu38 _ := ⟨Fu38, PySem.W.mg_of X G au38, (Fu38.binds (ps := ["_law_script", "_law_k"]) fun _ _ _ _ _ _ us hl => match us, hl with | [_, _], _ => rfl)⟩
  have Au39 : At K mg "_law_cells" sCells ["_law_script", "_law_top"] fu39 _ := ⟨Fu39, PySem.W.mg_of X G au39, (Fu39.binds (ps := ["_law_script", "_law_top"]) fun _ _ _ _ _ _ us hl => match us, hl with | [_, _], _ => rfl)⟩
  have Mv0 : AtM K "kind" "Step.kind" s_Step__d__kind ["self"] fv0 _ := ⟨Fv0, (Fv0.binds (ps := ["self"]) fun _ _ _ _ _ _ us hl => match us, hl with | [_], _ => rfl)⟩
  have Zv0 : PropOf K C0 "kind" pv0 fv0 := ⟨av0, gv0, tv0, ⟨_, rv0⟩⟩
  have Mv1 : AtM K "what" "Step.what" s_Step__d__what ["self"] fv1 _ := ⟨Fv1, (Fv1.binds (ps := ["self"]) fun _ _ _ _ _ _ us hl => match us, hl with | [_], _ => rfl)⟩
  have Zv1 : PropOf K C0 "what" pv1 fv1 := ⟨av1, gv1, tv1, ⟨_, rv1⟩⟩
  have Mv22 : AtM K "__init__" "Step.__init__" s_Step__d____init__ ["self", "kind", "what"] fv22 _ := ⟨Fv22, (Fv22.binds (ps := ["self", "kind", "what"]) fun _ _ _ _ _ _ us hl => match us, hl with | [_, _, _], _ => rfl)⟩
  have Zv22 : Mk K C0 fv22 := ⟨mkC0, av22, iv22, kcC0⟩
  have Mv23 : AtM K "of" "Step.of" s_Step__d__of ["text"] fv23 _ := ⟨Fv23, (Fv23.binds (ps := ["text"]) fun _ _ _ _ _ _ us hl => match us, hl with | [_], _ => rfl)⟩
  have Zv23 : SMet K C0 (.type "type") "of" pv23 fv23 := ⟨av23, ⟨_, rv23⟩, kv23⟩
  have Mv11 : AtM K "steps" "Rule.steps" s_Rule__d__steps ["self"] fv11 _ := ⟨Fv11, (Fv11.binds (ps := ["self"]) fun _ _ _ _ _ _ us hl => match us, hl with | [_], _ => rfl)⟩
  have Zv11 : PropOf K C1 "steps" pv11 fv11 := ⟨av11, gv11, tv11, ⟨_, rv11⟩⟩
  have Bv17 := Fv17.binds1 (ps := ["self", "steps"]) 2 1 (by simp) rfl fun T kV doc pm an cdv ct us its h1 h2 => match us, its, h1, h2 with | [x, y], [z], _, _ => ⟨_, rfl, rfl⟩
  have Dv17 := Fv17.binds1 (ps := ["self", "steps"]) 1 0 (by simp) rfl fun T kV doc pm an cdv ct us its h1 h2 => match us, its, h1, h2 with | [x], [z], _, _ => ⟨_, rfl, rfl⟩
  have Mv17 : AtD K "__init__" "Rule.__init__" s_Rule__d____init__ ["self", "steps"] [V.ref Cl.e0] fv17 _ := ⟨Fv17, (by obtain ⟨ds, r, h⟩ := Bv17; cases r; exact h), Dv17⟩
  have Zv17 : Mk K C1 fv17 := ⟨mkC1, av17, iv17, kcC1⟩
  have Mv24 : AtM K "of" "Rule.of" s_Rule__d__of ["text"] fv24 _ := ⟨Fv24, (Fv24.binds (ps := ["text"]) fun _ _ _ _ _ _ us hl => match us, hl with | [_], _ => rfl)⟩
  have Zv24 : SMet K C1 (.type "type") "of" pv24 fv24 := ⟨av24, ⟨_, rv24⟩, kv24⟩
  have DC0 : Cls K C0 := ⟨pgC0, hdC0, poC0, saC0⟩
  have EC0 : ClX.CRead K C0 (.type "type") := ⟨rdC0, gaC0⟩
  have NC0 := PySem.W.mg_of X G aCC0
  have DC1 : Cls K C1 := ⟨pgC1, hdC1, poC1, saC1⟩
  have EC1 : ClX.CRead K C1 (.type "type") := ⟨rdC1, gaC1⟩
  have NC1 := PySem.W.mg_of X G aCC1
  have k0C0 : PySem.W.kitOne K (.ref C0) (.ref C0) = some true := kit_self
  have k1C0 : PySem.W.kitOne K (.ref C0) (.ref C1) = some false := kit_own e1C0 hdC1 t1C0 m1C0
  have k0C1 : PySem.W.kitOne K (.ref C1) (.ref C0) = some false := kit_own e0C1 hdC0 t0C1 m0C1
  have k1C1 : PySem.W.kitOne K (.ref C1) (.ref C1) = some true := kit_self
  have hez : Kt Cl.e0 [] := ⟨_, _, _, lE, rfl, rfl, by decide, .nil⟩
  let L : Lib Cl.K mg := {
    mc_Step := .type "type",
    rd_Step := EC0,
    cl_Step := DC0,
    fs_Step := rfl,
    mg_Step := NC0,
    n_Step__kind := n0C0,
    n_Step__what := n1C0,
    mc_Rule := .type "type",
    rd_Rule := EC1,
    cl_Rule := DC1,
    fs_Rule := rfl,
    mg_Rule := NC1,
    n_Rule__steps := n0C1,
    f_Step__d__kind := fv0,
    fd_Step__d__kind := _,
    a_Step__d__kind := Mv0,
    p_Step__d__kind := pv0,
    pr_Step__d__kind := Zv0,
    f_Step__d__what := fv1,
    fd_Step__d__what := _,
    a_Step__d__what := Mv1,
    p_Step__d__what := pv1,
    pr_Step__d__what := Zv1,
    f_with_name := fu2,
    fd_with_name := _,
    a_with_name := Au2,
    f_outside := fu3,
    fd_outside := _,
    a_outside := Au3,
    f_forgotten := fu4,
    fd_forgotten := _,
    a_forgotten := Au4,
    f_touched := fu5,
    fd_touched := _,
    a_touched := Au5,
    f_capped := fu6,
    fd_capped := _,
    a_capped := Au6,
    f_row_behind_step := fu7,
    fd_row_behind_step := _,
    a_row_behind_step := Au7,
    f_told_by := fu8,
    fd_told_by := _,
    a_told_by := Au8,
    f_tight_chain := fu9,
    fd_tight_chain := _,
    a_tight_chain := Au9,
    f_shape_of := fu10,
    fd_shape_of := _,
    a_shape_of := Au10,
    f_Rule__d__steps := fv11,
    fd_Rule__d__steps := _,
    a_Rule__d__steps := Mv11,
    p_Rule__d__steps := pv11,
    pr_Rule__d__steps := Zv11,
    f_form_of := fu12,
    fd_form_of := _,
    a_form_of := Au12,
    f_is_bounded := fu13,
    fd_is_bounded := _,
    a_is_bounded := Au13,
    f_height_of := fu14,
    fd_height_of := _,
    a_height_of := Au14,
    f_names_of := fu15,
    fd_names_of := _,
    a_names_of := Au15,
    f_height := fu16,
    fd_height := _,
    a_height := Au16,
    f_Rule__d____init__ := fv17,
    fd_Rule__d____init__ := _,
    a_Rule__d____init__ := Mv17,
    b0_Rule__d____init__ := Dv17,
    mk_Rule := Zv17,
    f_is_numeral := fu18,
    fd_is_numeral := _,
    a_is_numeral := Au18,
    f_is_number := fu19,
    fd_is_number := _,
    a_is_number := Au19,
    f_is_name := fu20,
    fd_is_name := _,
    a_is_name := Au20,
    f_is_step := fu21,
    fd_is_step := _,
    a_is_step := Au21,
    f_Step__d____init__ := fv22,
    fd_Step__d____init__ := _,
    a_Step__d____init__ := Mv22,
    mk_Step := Zv22,
    f_Step__d__of := fv23,
    fd_Step__d__of := _,
    a_Step__d__of := Mv23,
    p_Step__d__of := pv23,
    sm_Step__d__of := Zv23,
    f_Rule__d__of := fv24,
    fd_Rule__d__of := _,
    a_Rule__d__of := Mv24,
    p_Rule__d__of := pv24,
    sm_Rule__d__of := Zv24,
    f__law_same := fu25,
    fd__law_same := _,
    a__law_same := Au25,
    f__law_by_hand_right := fu26,
    fd__law_by_hand_right := _,
    a__law_by_hand_right := Au26,
    f__law_take := fu27,
    fd__law_take := _,
    a__law_take := Au27,
    f__law_of := fu28,
    fd__law_of := _,
    a__law_of := Au28,
    f__law_mixed := fu29,
    fd__law_mixed := _,
    a__law_mixed := Au29,
    f__law_tags := fu30,
    fd__law_tags := _,
    a__law_tags := Au30,
    f__law_line := fu31,
    fd__law_line := _,
    a__law_line := Au31,
    f__law_known := fu32,
    fd__law_known := _,
    a__law_known := Au32,
    f__law_apart := fu33,
    fd__law_apart := _,
    a__law_apart := Au33,
    f__law_reach := fu34,
    fd__law_reach := _,
    a__law_reach := Au34,
    f__law_height := fu35,
    fd__law_height := _,
    a__law_height := Au35,
    f__law_host := fu36,
    fd__law_host := _,
    a__law_host := Au36,
    f__law_right := fu37,
    fd__law_right := _,
    a__law_right := Au37,
    f__law_box := fu38,
    fd__law_box := _,
    a__law_box := Au38,
    f__law_cells := fu39,
    fd__law_cells := _,
    a__law_cells := Au39,
    e0 := hez,
    bA := bA,
    mgB := PySem.W.mg_of X G gB,
    hdB := fun w H => conB_hd tbA tbB tbE w H }
  exact ⟨PySem.W.fnOf "law" "law" (defArgs s_law) (defBody s_law) (defScope s_law) .none kVAl dcAl pmAl anAl cdAl ctAl, fun s v => .of_eq rfl, fun base _ _ => ok_law FAl T L⟩
theorem walk {l : PySem.W.OpenLaw} {q : Program} {loose : List Str} {XP : (Str → Option Value) → Heap → Prop} {YP : World → Heap → Prop} {d : DefRec} {K : Params → PySem.W.Frag} (hn : l.most = some 63) (hdf : d.params.defaults = [])
    (hY : ∀ (w : World) (h : Heap), YP w h → (K w.params).In h)
    (F : ∀ (w : World) (mg : Str → Option Value) (fa : Addr) (h : Heap), (K w.params).In h → h.Ns mainGlobals mg → mg d.name = some (.ref fa) →
      ∃ fd : FuncData, (∀ (s : Shared) (u : Value), BindsTo s fd ⟨[u], []⟩ [("_law_script", u)]) ∧ ∀ base : Heap, (K w.params).In base → base.Ns mainGlobals mg → FnOk l.prog w (K w.params) mg base CX0 10 fa fd ["_law_script"] (spLaw (K w.params))) :
    PySem.W.WalkO q loose XP YP l.row.toRowW d [] (fun f vs => PySem.call f vs) :=
  L2.walk_of (n := 63) (k := 10) (x := "_law_script") (CX := fun _ => CX0) (sp := fun w => spLaw (K w.params)) hn (by decide) hdf ⟨rfl, by decide, by decide⟩ hY F (fun _ _ a ns hl _ hS => ⟨a, ns, rfl, hS, hl, fun _ => rfl⟩) fun _ _ _ _ _ z => z
end TC
open PySem PySem.W PyProof.Rows
set_option maxRecDepth 100000 in
set_option maxHeartbeats 0 in
theorem PySem.Challenge.cw_touchcaps_k36_how_high_rules_stand_holds : PySem.Challenge.rw_touchcaps_k36_how_high_rules_stand.Holds := by
  w_on; o_law; k_head; (case hw => w_witness2)
  k_fill
  refine TC.walk (l := PySem.Challenge.rw_touchcaps_k36_how_high_rules_stand) rfl rfl (fun w h Y => PySem.W.kIn_of Y) ?F
  case F =>
    intro w mg fa h KX G hmg
    refine' TC.all_mk KX G hmg ?au2 ?lu2 ?cu2 ?ku2 ?au3 ?lu3 ?cu3 ?ku3 ?au4 ?lu4 ?cu4 ?ku4 ?au5 ?lu5 ?cu5 ?ku5 ?au6 ?lu6 ?cu6 ?ku6 ?au7 ?lu7 ?cu7 ?ku7 ?au8 ?lu8 ?cu8 ?ku8 ?au9 ?lu9 ?cu9 ?ku9 ?au10 ?lu10 ?cu10 ?ku10 ?au12 ?lu12 ?cu12 ?ku12 ?au13 ?lu13 ?cu13 ?ku13 ?au14 ?lu14 ?cu14 ?ku14 ?au15 ?lu15 ?cu15 ?ku15 ?au16 ?lu16 ?cu16 ?ku16 ?au18 ?lu18 ?cu18 ?ku18 ?au19 ?lu19 ?cu19 ?ku19 ?au20 ?lu20 ?cu20 ?ku20 ?au21 ?lu21 ?cu21 ?ku21 ?au25 ?lu25 ?cu25 ?ku25 ?au26 ?lu26 ?cu26 ?ku26 ?au27 ?lu27 ?cu27 ?ku27 ?au28 ?lu28 ?cu28 ?ku28 ?au29 ?lu29 ?cu29 ?ku29 ?au30 ?lu30 ?cu30 ?ku30 ?au31 ?lu31 ?cu31 ?ku31 ?au32 ?lu32 ?cu32 ?ku32 ?au33 ?lu33 ?cu33 ?ku33 ?au34 ?lu34 ?cu34 ?ku34 ?au35 ?lu35 ?cu35 ?ku35 ?au36 ?lu36 ?cu36 ?ku36 ?au37 ?lu37 ?cu37 ?ku37 ?au38 ?lu38 ?cu38 ?ku38 ?au39 ?lu39 ?cu39 ?ku39 ?aAl ?lAl ?cAl ?kAl ?aCC0 ?pgC0 ?hdC0 ?poC0 ?saC0 ?mkC0 ?kcC0 ?rdC0 ?gaC0 ?jaC0 ?jmC0 ?e1C0 ?m1C0 ?t1C0 ?n0C0 ?n1C0 ?aCC1 ?pgC1 ?hdC1 ?poC1 ?saC1 ?mkC1 ?kcC1 ?rdC1 ?gaC1 ?jaC1 ?jmC1 ?e0C1 ?m0C1 ?t0C1 ?n0C1 ?av0 ?gv0 ?tv0 ?rv0 ?lv0 ?cv0 ?kv0 ?av1 ?gv1 ?tv1 ?rv1 ?lv1 ?cv1 ?kv1 ?av22 ?iv22 ?lv22 ?cv22 ?kv22 ?av23 ?rv23 ?lv23 ?cv23 ?kv23 ?av11 ?gv11 ?tv11 ?rv11 ?lv11 ?cv11 ?kv11 ?av17 ?iv17 ?lv17 ?cv17 ?kv17 ?dv17 ?av24 ?rv24 ?lv24 ?cv24 ?kv24 ?lE ?jn ?jt ?gB ?tbA ?tbB ?tbE ?ztuple ?zlist ?zint ?zlen ?zabs ?zall ?zmax ?zrange ?zzip ?zenumerate ?zisinstance ?zbool ?zstr ?zsorted ?zset ?zmin ?zany ?zsum
    (case aCC0 => k_is)
    (case aCC1 => k_is)
    (case au2 => k_is)
    (case lu2 => k_is)
    (case cu2 => k_is)
    (case ku2 => k_is)
    (case au3 => k_is)
    (case lu3 => k_is)
    (case cu3 => k_is)
    (case ku3 => k_is)
    (case au4 => k_is)
    (case lu4 => k_is)
    (case cu4 => k_is)
    (case ku4 => k_is)
    (case au5 => k_is)
    (case lu5 => k_is)
    (case cu5 => k_is)
    (case ku5 => k_is)
    (case au6 => k_is)
    (case lu6 => k_is)
    (case cu6 => k_is)
    (case ku6 => k_is)
    (case au7 => k_is)
    (case lu7 => k_is)
    (case cu7 => k_is)
    (case ku7 => k_is)
    (case au8 => k_is)
    (case lu8 => k_is)
    (case cu8 => k_is)
    (case ku8 => k_is)
    (case au9 => k_is)
    (case lu9 => k_is)
    (case cu9 => k_is)
    (case ku9 => k_is)
    (case au10 => k_is)
    (case lu10 => k_is)
    (case cu10 => k_is)
    (case ku10 => k_is)
    (case au12 => k_is)
    (case lu12 => k_is)
    (case cu12 => k_is)
    (case ku12 => k_is)
    (case au13 => k_is)
    (case lu13 => k_is)
    (case cu13 => k_is)
    (case ku13 => k_is)
    (case au14 => k_is)
    (case lu14 => k_is)
    (case cu14 => k_is)
    (case ku14 => k_is)
    (case au15 => k_is)
    (case lu15 => k_is)
    (case cu15 => k_is)
    (case ku15 => k_is)
    (case au16 => k_is)
    (case lu16 => k_is)
    (case cu16 => k_is)
    (case ku16 => k_is)
    (case au18 => k_is)
    (case lu18 => k_is)
    (case cu18 => k_is)
    (case ku18 => k_is)
    (case au19 => k_is)
    (case lu19 => k_is)
    (case cu19 => k_is)
    (case ku19 => k_is)
    (case au20 => k_is)
    (case lu20 => k_is)
    (case cu20 => k_is)
    (case ku20 => k_is)
    (case au21 => k_is)
    (case lu21 => k_is)
    (case cu21 => k_is)
    (case ku21 => k_is)
    (case au25 => k_is)
    (case lu25 => k_is)
    (case cu25 => k_is)
    (case ku25 => k_is)
    (case au26 => k_is)
    (case lu26 => k_is)
    (case cu26 => k_is)
    (case ku26 => k_is)
    (case au27 => k_is)
    (case lu27 => k_is)
    (case cu27 => k_is)
    (case ku27 => k_is)
    (case au28 => k_is)
    (case lu28 => k_is)
    (case cu28 => k_is)
    (case ku28 => k_is)
    (case au29 => k_is)
    (case lu29 => k_is)
    (case cu29 => k_is)
    (case ku29 => k_is)
    (case au30 => k_is)
    (case lu30 => k_is)
    (case cu30 => k_is)
    (case ku30 => k_is)
    (case au31 => k_is)
    (case lu31 => k_is)
    (case cu31 => k_is)
    (case ku31 => k_is)
    (case au32 => k_is)
    (case lu32 => k_is)
    (case cu32 => k_is)
    (case ku32 => k_is)
    (case au33 => k_is)
    (case lu33 => k_is)
    (case cu33 => k_is)
    (case ku33 => k_is)
    (case au34 => k_is)
    (case lu34 => k_is)
    (case cu34 => k_is)
    (case ku34 => k_is)
    (case au35 => k_is)
    (case lu35 => k_is)
    (case cu35 => k_is)
    (case ku35 => k_is)
    (case au36 => k_is)
    (case lu36 => k_is)
    (case cu36 => k_is)
    (case ku36 => k_is)
    (case au37 => k_is)
    (case lu37 => k_is)
    (case cu37 => k_is)
    (case ku37 => k_is)
    (case au38 => k_is)
    (case lu38 => k_is)
    (case cu38 => k_is)
    (case ku38 => k_is)
    (case au39 => k_is)
    (case lu39 => k_is)
    (case cu39 => k_is)
    (case ku39 => k_is)
    (case aAl => k_is)
    (case lAl => k_is)
    (case cAl => k_is)
    (case kAl => k_is)
    (case pgC0 => k_is)
    (case hdC0 => k_is)
    (case poC0 => k_is)
    (case saC0 => k_is)
    (case mkC0 => k_is)
    (case kcC0 => k_is)
    (case rdC0 => k_is)
    (case gaC0 => k_is)
    (case jaC0 => k_is)
    (case jmC0 => k_is)
    (case e1C0 => first | rfl | decide | k_is)
    (case m1C0 => k_is)
    (case t1C0 => k_is)
    (case n0C0 => k_is)
    (case n1C0 => k_is)
    (case pgC1 => k_is)
    (case hdC1 => k_is)
    (case poC1 => k_is)
    (case saC1 => k_is)
    (case mkC1 => k_is)
    (case kcC1 => k_is)
    (case rdC1 => k_is)
    (case gaC1 => k_is)
    (case jaC1 => k_is)
    (case jmC1 => k_is)
    (case e0C1 => first | rfl | decide | k_is)
    (case m0C1 => k_is)
    (case t0C1 => k_is)
    (case n0C1 => k_is)
    (case av0 => k_is)
    (case gv0 => k_is)
    (case tv0 => k_is)
    (case rv0 => k_is)
    (case lv0 => k_is)
    (case cv0 => k_is)
    (case kv0 => k_is)
    (case av1 => k_is)
    (case gv1 => k_is)
    (case tv1 => k_is)
    (case rv1 => k_is)
    (case lv1 => k_is)
    (case cv1 => k_is)
    (case kv1 => k_is)
    (case av22 => k_is)
    (case iv22 => k_is)
    (case lv22 => k_is)
    (case cv22 => k_is)
    (case kv22 => k_is)
    (case av23 => k_is)
    (case rv23 => k_is)
    (case lv23 => k_is)
    (case cv23 => k_is)
    (case kv23 => k_is)
    (case av11 => k_is)
    (case gv11 => k_is)
    (case tv11 => k_is)
    (case rv11 => k_is)
    (case lv11 => k_is)
    (case cv11 => k_is)
    (case kv11 => k_is)
    (case av17 => k_is)
    (case iv17 => k_is)
    (case lv17 => k_is)
    (case cv17 => k_is)
    (case kv17 => k_is)
    (case dv17 => k_is)
    (case av24 => k_is)
    (case rv24 => k_is)
    (case lv24 => k_is)
    (case cv24 => k_is)
    (case kv24 => k_is)
    (case lE => k_is)
    (case jn => k_is)
    (case jt => k_is)
    (case gB => k_is)
    (case tbA => k_is)
    (case tbB => k_is)
    (case tbE => k_is)
    (case ztuple => k_is)
    (case zlist => k_is)
    (case zint => k_is)
    (case zlen => k_is)
    (case zabs => k_is)
    (case zall => k_is)
    (case zmax => k_is)
    (case zrange => k_is)
    (case zzip => k_is)
    (case zenumerate => k_is)
    (case zisinstance => k_is)
    (case zbool => k_is)
    (case zstr => k_is)
    (case zsorted => k_is)
    (case zset => k_is)
    (case zmin => k_is)
    (case zany => k_is)
    (case zsum => k_is)
