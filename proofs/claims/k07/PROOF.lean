import PyProof.Rows.All
import Wide.All
import OpenK.AllK
import Wide.FinOn
import HandS.ForMost
import HandS.Walk
import HandS.Zip
import HandS.Star
import HandS.IsInst
import HandS.Wide
import HandS.Flow
import HandS.TupAny
import HandS.Conv
import HandS.Defaults
import HandS.Style
import HandS.Strs
import HandS.Property
import HandS.ClsMeth
import HandS.Text
import HandS.RaiseMore
import PySem.Challenge.RW_touchcaps_k07_what_rules_make
set_option Elab.async false
set_option linter.all false
set_option maxRecDepth 100000
/-! TC: a layer of data over the hand layer: what a name holds is data (D), told without addresses; one list of three ints (the urn) may change. -/
namespace TC
open PySem PySem.Spec PyProof.Rows L2

/-- data, without addresses; the urn -/
inductive D where
  | non | bl (b : Bool) | int (i : Int) | str (s : Str) | lst (l : List D) | tup (l : List D) | obj (c : Nat) (l : List D) | urn | cell (p : Addr) (l : List D) | ext
/-- the classes by number: where one stands, its fields -/
class Cl where
  c : Nat → Addr × List Str
  /-- where the program's own empty tuple stands -/
  e0 : Addr
variable [Cl]

/-- the world: where the urn stands; what else is not data -/
structure W where
  u : Option Addr
  ex : List Addr
  /-- those of ex that are lists of a def's own, that it fills -/
  ce : List Addr
  sub : ∀ a ∈ ce, a ∈ ex
def W.av (w : W) (a : Addr) : Prop := w.u = some a ∨ a ∈ w.ex

mutual
def Hd (w : W) (H : Hp) (v : V) : D → Prop
  | .non => v = .non
  | .bl b => v = .bl b
  | .int i => v = .int i
  | .str s => v = .str s
  | .lst l => ∃ a vs, v = .ref a ∧ ¬ w.av a ∧ H a = some (.lst vs) ∧ Hds w H vs l
  | .tup l => ∃ a vs, v = .ref a ∧ ¬ w.av a ∧ H a = some (.tup vs) ∧ Hds w H vs l
  | .obj c l => ∃ a dx vs, v = .ref a ∧ ¬ w.av a ∧ ¬ w.av dx ∧ H dx = some (.own a) ∧ H a = some (.ins (Cl.c c).1 dx ((Cl.c c).2.zip vs)) ∧ Hds w H vs l
  | .urn => ∃ a, w.u = some a ∧ v = .ref a
  | .ext => v = .ref Cl.e0
  | .cell p l => v = .ref p ∧ p ∈ w.ce ∧ w.u ≠ some p ∧ ∃ vs, H p = some (.lst vs) ∧ Hds w H vs l
def Hds (w : W) (H : Hp) (vs : List V) : List D → Prop
  | [] => vs = []
  | d :: ds => ∃ x xs, vs = x :: xs ∧ Hd w H x d ∧ Hds w H xs ds
end

/-- all but what may change is as it was -/
def Fr (w : W) (H H' : Hp) : Prop := ∀ b o, w.u ≠ some b → H b = some o → H' b = some o
theorem W.nu {w : W} {a : Addr} (n : ¬ w.av a) : w.u ≠ some a := fun z => n (.inl z)
theorem Fr.refl (w : W) (H : Hp) : Fr w H H := fun _ _ _ h => h
theorem Fr.trans {w : W} {H H1 H2 : Hp} (a : Fr w H H1) (b : Fr w H1 H2) : Fr w H H2 := fun c o n h => b c o n (a c o n h)

mutual
theorem Hd.fr {w : W} {H H' : Hp} (f : Fr w H H') {v : V} : ∀ {d : D}, Hd w H v d → Hd w H' v d
  | .non, h => by unfold Hd at h ⊢; exact h
  | .bl b, h => by unfold Hd at h ⊢; exact h
  | .int i, h => by unfold Hd at h ⊢; exact h
  | .str s, h => by unfold Hd at h ⊢; exact h
  | .lst l, h => by
    unfold Hd at h ⊢
    obtain ⟨a, vs, e, n, ha, hs⟩ := h
    exact ⟨a, vs, e, n, f _ _ (W.nu n) ha, Hds.fr f hs⟩
  | .tup l, h => by
    unfold Hd at h ⊢
    obtain ⟨a, vs, e, n, ha, hs⟩ := h
    exact ⟨a, vs, e, n, f _ _ (W.nu n) ha, Hds.fr f hs⟩
  | .obj c l, h => by
    unfold Hd at h ⊢
    obtain ⟨a, dx, vs, e, n, n2, hd, ha, hs⟩ := h
    exact ⟨a, dx, vs, e, n, n2, f _ _ (W.nu n2) hd, f _ _ (W.nu n) ha, Hds.fr f hs⟩
  | .urn, h => by unfold Hd at h ⊢; exact h
  | .ext, h => by unfold Hd at h ⊢; exact h
  | .cell p l, h => by
    unfold Hd at h ⊢
    obtain ⟨e, m, n, vs, ha, hs⟩ := h
    exact ⟨e, m, n, vs, f _ _ n ha, Hds.fr f hs⟩
theorem Hds.fr {w : W} {H H' : Hp} (f : Fr w H H') {vs : List V} : ∀ {ds : List D}, Hds w H vs ds → Hds w H' vs ds
  | [], h => by unfold Hds at h ⊢; exact h
  | d :: ds, h => by
    unfold Hds at h ⊢
    obtain ⟨x, xs, e, h1, h2⟩ := h
    exact ⟨x, xs, e, Hd.fr f h1, Hds.fr f h2⟩
end
theorem Hds.nil {w : W} {H : Hp} : Hds w H [] [] := by unfold Hds; rfl
theorem Hds.cons {w : W} {H : Hp} {v : V} {vs : List V} {d : D} {ds : List D} (h : Hd w H v d) (hs : Hds w H vs ds) : Hds w H (v :: vs) (d :: ds) := by
  unfold Hds; exact ⟨v, vs, rfl, h, hs⟩
theorem Hds.uncons {w : W} {H : Hp} {vs : List V} {d : D} {ds : List D} (h : Hds w H vs (d :: ds)) : ∃ x xs, vs = x :: xs ∧ Hd w H x d ∧ Hds w H xs ds := by
  unfold Hds at h; exact h
theorem Hds.unnil {w : W} {H : Hp} {vs : List V} (h : Hds w H vs []) : vs = [] := by unfold Hds at h; exact h
theorem Hds.len {w : W} {H : Hp} : ∀ {ds : List D} {vs : List V}, Hds w H vs ds → vs.length = ds.length
  | [], vs, h => by rw [h.unnil]; rfl
  | d :: ds, vs, h => by
    obtain ⟨x, xs, rfl, _, h2⟩ := h.uncons
    simp [h2.len]
theorem Hds.app {w : W} {H : Hp} : ∀ {ds es : List D} {vs us : List V}, Hds w H vs ds → Hds w H us es → Hds w H (vs ++ us) (ds ++ es)
  | [], es, vs, us, h, g => by rw [h.unnil]; exact g
  | d :: ds, es, vs, us, h, g => by
    obtain ⟨x, xs, rfl, h1, h2⟩ := h.uncons
    exact .cons h1 (h2.app g)
theorem Hds.take {w : W} {H : Hp} : ∀ {ds : List D} {vs : List V} (n : Nat), Hds w H vs ds → Hds w H (vs.take n) (ds.take n)
  | _, _, 0, _ => by simp; exact .nil
  | [], vs, n + 1, h => by rw [h.unnil]; simp; exact .nil
  | d :: ds, vs, n + 1, h => by
    obtain ⟨x, xs, rfl, h1, h2⟩ := h.uncons
    exact .cons h1 (h2.take n)
theorem Hds.drop {w : W} {H : Hp} : ∀ {ds : List D} {vs : List V} (n : Nat), Hds w H vs ds → Hds w H (vs.drop n) (ds.drop n)
  | _, _, 0, h => h
  | [], vs, n + 1, h => by rw [h.unnil]; simp; exact .nil
  | d :: ds, vs, n + 1, h => by
    obtain ⟨x, xs, rfl, h1, h2⟩ := h.uncons
    exact h2.drop n
theorem Hds.get {w : W} {H : Hp} : ∀ {ds : List D} {vs : List V} {i : Nat} {d : D}, Hds w H vs ds → ds[i]? = some d → ∃ v, vs[i]? = some v ∧ Hd w H v d
  | [], vs, i, d, h, e => by simp at e
  | d :: ds, vs, 0, d', h, e => by
    obtain ⟨x, xs, rfl, h1, h2⟩ := h.uncons
    simp at e; subst e
    exact ⟨x, rfl, h1⟩
  | d :: ds, vs, i + 1, d', h, e => by
    obtain ⟨x, xs, rfl, h1, h2⟩ := h.uncons
    exact h2.get (i := i) (by simpa using e)
theorem Hds.of {w : W} {H : Hp} : ∀ {ds : List D} {vs : List V}, vs.length = ds.length → (∀ (i : Nat) (v : V) (d : D), vs[i]? = some v → ds[i]? = some d → Hd w H v d) → Hds w H vs ds
  | [], [], _, _ => .nil
  | d :: ds, v :: vs, hl, h => .cons (h 0 v d rfl rfl) (Hds.of (by simpa using hl) fun i x e h1 h2 => h (i + 1) x e (by simpa using h1) (by simpa using h2))
  | [], v :: vs, hl, _ => by simp at hl
  | d :: ds, [], hl, _ => by simp at hl

/-! ### the urn -/
def MAXC : Int := 1000000000
/-- the urn at a, m draws left -/
def UrnAt (H : Hp) (a : Addr) (m : Nat) : Prop := ∃ x y z : Int, H a = some (.lst [.int x, .int y, .int z]) ∧ 0 ≤ z ∧ z + m ≤ MAXC
def UI (w : W) (m : Nat) (H : Hp) : Prop := (∀ a, w.u = some a → UrnAt H a m) ∧ ∀ a ∈ w.ex, ∃ o, H a = some o
theorem UrnAt.mono {H : Hp} {a : Addr} {m m' : Nat} (h : UrnAt H a m) (l : m' ≤ m) : UrnAt H a m' := by
  obtain ⟨x, y, z, e, h3, h4⟩ := h
  exact ⟨x, y, z, e, h3, by omega⟩
theorem UI.mono {w : W} {H : Hp} {m m' : Nat} (h : UI w m H) (l : m' ≤ m) : UI w m' H := ⟨fun a e => (h.1 a e).mono l, h.2⟩
theorem UI.there {w : W} {H : Hp} {m : Nat} (h : UI w m H) {a : Addr} (n : w.av a) : ∃ o, H a = some o := by
  rcases n with n | n
  · obtain ⟨x, y, z, e, _⟩ := h.1 a n; exact ⟨_, e⟩
  · exact h.2 a n
theorem UI.new {w : W} {H : Hp} {m : Nat} (h : UI w m H) {a : Addr} (n : H a = none) : ¬ w.av a := fun z => by
  obtain ⟨o, e⟩ := h.there z; rw [n] at e; cases e
theorem UI.upd {w : W} {H : Hp} {m : Nat} (h : UI w m H) {a : Addr} {o : HO} (n : H a = none) : UI w m (upd H a o) := by
  refine ⟨fun b e => ?_, fun b e => ?_⟩
  · obtain ⟨x, y, z, e', r⟩ := h.1 b e
    exact ⟨x, y, z, by rw [upd_ne (ne_of_none e' n)]; exact e', r⟩
  · obtain ⟨u, e'⟩ := h.2 b e
    exact ⟨u, by rw [upd_ne (ne_of_none e' n)]; exact e'⟩
theorem Fr.upd {w : W} {H : Hp} {a : Addr} {o : HO} (n : H a = none) : Fr w H (upd H a o) := fun b u _ e => by
  rw [upd_ne (ne_of_none e n)]; exact e
/-- a tracked, changing thing of the world's own is written -/
theorem Fr.write {w : W} {H : Hp} {a : Addr} {o : HO} (n : w.u = some a) : Fr w H (L2.upd H a o) := fun b u hb e => by
  rw [upd_ne (fun z => hb (by rw [z]; exact n))]; exact e
theorem Fr.of_same {w : W} {H H' : Hp} (s : Same H H') : Fr w H H' := fun b o _ e => s b o e

mutual
/-- what is no data is written -/
theorem Hd.write {w : W} {H : Hp} {a : Addr} {o : HO} (n : w.av a) (nc : a ∉ w.ce) {v : V} : ∀ {d : D}, Hd w H v d → Hd w (upd H a o) v d
  | .non, h => by unfold Hd at h ⊢; exact h
  | .bl b, h => by unfold Hd at h ⊢; exact h
  | .int i, h => by unfold Hd at h ⊢; exact h
  | .str s, h => by unfold Hd at h ⊢; exact h
  | .lst l, h => by
    unfold Hd at h ⊢
    obtain ⟨b, vs, e, k, ha, hs⟩ := h
    exact ⟨b, vs, e, k, by rw [upd_ne (fun z => k (by rw [z]; exact n))]; exact ha, Hds.write n nc hs⟩
  | .tup l, h => by
    unfold Hd at h ⊢
    obtain ⟨b, vs, e, k, ha, hs⟩ := h
    exact ⟨b, vs, e, k, by rw [upd_ne (fun z => k (by rw [z]; exact n))]; exact ha, Hds.write n nc hs⟩
  | .obj c l, h => by
    unfold Hd at h ⊢
    obtain ⟨b, dx, vs, e, k, k2, hd, ha, hs⟩ := h
    exact ⟨b, dx, vs, e, k, k2, by rw [upd_ne (fun z => k2 (by rw [z]; exact n))]; exact hd, by rw [upd_ne (fun z => k (by rw [z]; exact n))]; exact ha, Hds.write n nc hs⟩
  | .urn, h => by unfold Hd at h ⊢; exact h
  | .ext, h => by unfold Hd at h ⊢; exact h
  | .cell p l, h => by
    unfold Hd at h ⊢
    obtain ⟨e, m, k, vs, ha, hs⟩ := h
    exact ⟨e, m, k, vs, by rw [upd_ne (fun z => nc (by rw [← z]; exact m))]; exact ha, Hds.write n nc hs⟩
theorem Hds.write {w : W} {H : Hp} {a : Addr} {o : HO} (n : w.av a) (nc : a ∉ w.ce) {vs : List V} : ∀ {ds : List D}, Hds w H vs ds → Hds w (upd H a o) vs ds
  | [], h => by unfold Hds at h ⊢; exact h
  | d :: ds, h => by
    unfold Hds at h ⊢
    obtain ⟨x, xs, e, h1, h2⟩ := h
    exact ⟨x, xs, e, Hd.write n nc h1, Hds.write n nc h2⟩
end

/-! ### no cells -/
mutual
def noc : D → Bool
  | .lst l => nocL l
  | .tup l => nocL l
  | .obj _ l => nocL l
  | .cell _ _ => false
  | _ => true
def nocL : List D → Bool
  | [] => true
  | d :: l => noc d && nocL l
end
theorem nocL_mem : ∀ {l : List D}, (∀ d ∈ l, noc d = true) → nocL l = true
  | [], _ => rfl
  | d :: l, h => by rw [nocL, h d (List.mem_cons_self ..), nocL_mem fun e he => h e (List.mem_cons_of_mem _ he)]; rfl
theorem nocL_of : ∀ {l : List D}, nocL l = true → ∀ d ∈ l, noc d = true
  | d :: l, h, e, he => by
    rw [nocL, Bool.and_eq_true] at h
    rcases List.mem_cons.mp he with rfl | he
    · exact h.1
    · exact nocL_of h.2 e he
theorem nocL_app {l r : List D} (h : nocL l = true) (g : nocL r = true) : nocL (l ++ r) = true := nocL_mem fun d hd => by
  rcases List.mem_append.mp hd with h1 | h1
  · exact nocL_of h d h1
  · exact nocL_of g d h1
/-- what may not change, cells aside -/
def Frx (w : W) (H H' : Hp) : Prop := ∀ b o, ¬ w.av b → H b = some o → H' b = some o
theorem Fr.x {w : W} {H H' : Hp} (f : Fr w H H') : Frx w H H' := fun b o n e => f b o (W.nu n) e
theorem Frx.trans {w : W} {H H1 H2 : Hp} (a : Frx w H H1) (b : Frx w H1 H2) : Frx w H H2 := fun c o n h => b c o n (a c o n h)
theorem Frx.refl (w : W) (H : Hp) : Frx w H H := fun _ _ _ h => h
mutual
theorem Hd.frx {w : W} {H H' : Hp} (f : Frx w H H') {v : V} : ∀ {d : D}, noc d = true → Hd w H v d → Hd w H' v d
  | .non, _, h => by unfold Hd at h ⊢; exact h
  | .bl b, _, h => by unfold Hd at h ⊢; exact h
  | .int i, _, h => by unfold Hd at h ⊢; exact h
  | .str s, _, h => by unfold Hd at h ⊢; exact h
  | .lst l, c, h => by
    rw [noc] at c
    unfold Hd at h ⊢
    obtain ⟨a, vs, e, n, ha, hs⟩ := h
    exact ⟨a, vs, e, n, f _ _ n ha, Hds.frx f c hs⟩
  | .tup l, c, h => by
    rw [noc] at c
    unfold Hd at h ⊢
    obtain ⟨a, vs, e, n, ha, hs⟩ := h
    exact ⟨a, vs, e, n, f _ _ n ha, Hds.frx f c hs⟩
  | .obj k l, c, h => by
    rw [noc] at c
    unfold Hd at h ⊢
    obtain ⟨a, dx, vs, e, n, n2, hd, ha, hs⟩ := h
    exact ⟨a, dx, vs, e, n, n2, f _ _ n2 hd, f _ _ n ha, Hds.frx f c hs⟩
  | .urn, _, h => by unfold Hd at h ⊢; exact h
  | .ext, _, h => by unfold Hd at h ⊢; exact h
  | .cell p l, c, h => by rw [noc] at c; cases c
theorem Hds.frx {w : W} {H H' : Hp} (f : Frx w H H') {vs : List V} : ∀ {ds : List D}, nocL ds = true → Hds w H vs ds → Hds w H' vs ds
  | [], _, h => by unfold Hds at h ⊢; exact h
  | d :: ds, c, h => by
    rw [nocL, Bool.and_eq_true] at c
    unfold Hds at h ⊢
    obtain ⟨x, xs, e, h1, h2⟩ := h
    exact ⟨x, xs, e, Hd.frx f c.1 h1, Hds.frx f c.2 h2⟩
end
/-- what items ds ask to stand -/
def Keep (w : W) (ds : List D) (H0 H1 : Hp) : Prop := Fr w H0 H1 ∨ (nocL ds = true ∧ Frx w H0 H1)
theorem Keep.at {w : W} {ds : List D} {H0 H1 : Hp} (k : Keep w ds H0 H1) {a : Addr} {o : HO} (n : ¬ w.av a) (e : H0 a = some o) : H1 a = some o := by
  rcases k with f | ⟨_, f⟩
  · exact f a o (W.nu n) e
  · exact f a o n e
theorem Keep.hd {w : W} {ds : List D} {H0 H1 : Hp} (k : Keep w ds H0 H1) {v : V} {d : D} (m : d ∈ ds) (h : Hd w H0 v d) : Hd w H1 v d := by
  rcases k with f | ⟨c, f⟩
  · exact h.fr f
  · exact h.frx f (nocL_of c d m)
/-! ### slots -/
abbrev Env := List (Option D)
def Sls (w : W) (H : Hp) (σ : L2.St) (env : Env) : Prop := σ.length = env.length ∧ ∀ (i : Nat) (d : D), env[i]? = some (some d) → ∃ v, σ[i]? = some (some v) ∧ Hd w H v d
theorem Sls.fr {w : W} {H H' : Hp} {σ : L2.St} {env : Env} (h : Sls w H σ env) (f : Fr w H H') : Sls w H' σ env :=
  ⟨h.1, fun i d e => let ⟨v, e1, h1⟩ := h.2 i d e; ⟨v, e1, h1.fr f⟩⟩
theorem Sls.write {w : W} {H : Hp} {σ : L2.St} {env : Env} (h : Sls w H σ env) {a : Addr} {o : HO} (n : w.av a) (nc : a ∉ w.ce) : Sls w (upd H a o) σ env :=
  ⟨h.1, fun i d e => let ⟨v, e1, h1⟩ := h.2 i d e; ⟨v, e1, h1.write n nc⟩⟩
theorem Sls.set {w : W} {H : Hp} {σ : L2.St} {env : Env} (h : Sls w H σ env) (i : Nat) {v : V} {d : D} (hv : Hd w H v d) : Sls w H (σ.set i (some v)) (env.set i (some d)) := by
  refine ⟨by simp [h.1], fun j e q => ?_⟩
  by_cases hij : i = j
  · subst hij
    have hl : i < env.length := by
      by_cases hl : i < env.length
      · exact hl
      · rw [List.getElem?_eq_none (by simpa using hl)] at q; cases q
    rw [List.getElem?_set_self hl] at q
    cases q
    exact ⟨v, List.getElem?_set_self (by rw [h.1]; exact hl), hv⟩
  · rw [List.getElem?_set_ne hij] at q
    obtain ⟨u, e1, h1⟩ := h.2 j e q
    exact ⟨u, by rw [List.getElem?_set_ne hij]; exact e1, h1⟩
theorem Sls.forget {w : W} {H : Hp} {σ : L2.St} {env : Env} (h : Sls w H σ env) (i : Nat) : Sls w H (σ.set i none) (env.set i none) := by
  refine ⟨by simp [h.1], fun j e q => ?_⟩
  by_cases hij : i = j
  · subst hij
    by_cases hl : i < env.length
    · rw [List.getElem?_set_self hl] at q; cases q
    · rw [List.getElem?_eq_none (by simpa using hl)] at q; cases q
  · rw [List.getElem?_set_ne hij] at q
    obtain ⟨u, e1, h1⟩ := h.2 j e q
    exact ⟨u, by rw [List.getElem?_set_ne hij]; exact e1, h1⟩
def wipeE (env : Env) : List Nat → Env
  | [] => env
  | v :: vs => (wipeE env vs).set v none
theorem Sls.wipe {w : W} {H : Hp} {σ : L2.St} {env : Env} (h : Sls w H σ env) : ∀ vs : List Nat, Sls w H (L2.wipe σ vs) (wipeE env vs)
  | [] => h
  | v :: vs => (h.wipe vs).forget v
theorem Sls.start {w : W} {H : Hp} {vs : List V} {ds : List D} (h : Hds w H vs ds) (N : List Str) : Sls w H (L2.start N vs) (ds.map some ++ List.replicate (N.length - ds.length) none) := by
  have hl := h.len
  refine ⟨by simp [L2.start, hl], fun i d e => ?_⟩
  by_cases hi : i < ds.length
  · rw [List.getElem?_append_left (by simpa using hi)] at e
    rw [List.getElem?_map] at e
    have e2 : ds[i]? = some d := by
      cases q : ds[i]? with
      | none => rw [q] at e; cases e
      | some x => rw [q] at e; simpa using e
    obtain ⟨v, e3, hv⟩ := h.get e2
    refine ⟨v, ?_, hv⟩
    unfold L2.start
    rw [List.getElem?_append_left (by simpa [hl] using hi), List.getElem?_map, e3]
    rfl
  · rw [List.getElem?_append_right (by simpa using hi)] at e
    obtain ⟨_, e⟩ := List.getElem?_eq_some_iff.mp e
    simp at e

/-! ### what an expression gives, as data -/
/-- what may be wanted behind: of each outcome that the data's wish tells -/
def Ct (w : W) (H : Hp) (Q' : D → Nat → Prop) (Q : VK) : Prop := ∀ v d m' H', Fr w H H' → UI w m' H' → Hd w H' v d → Q' d m' → Q v H'
def Cts (w : W) (H : Hp) (Q' : List D → Nat → Prop) (Q : List V → Hp → Prop) : Prop := ∀ vs ds m' H', Fr w H H' → UI w m' H' → Hds w H' vs ds → Q' ds m' → Q vs H'
def Ctb (w : W) (H : Hp) (Q' : Bool → Nat → Prop) (Q : Bool → Hp → Prop) : Prop := ∀ b m' H', Fr w H H' → UI w m' H' → Q' b m' → Q b H'
theorem Ct.from {w : W} {H H1 : Hp} {Q' : D → Nat → Prop} {Q : VK} (c : Ct w H Q' Q) (f : Fr w H H1) : Ct w H1 Q' Q := fun v d m' H' g => c v d m' H' (f.trans g)

abbrev DE := Env → Nat → (D → Nat → Prop) → Prop
abbrev DA := Env → Nat → (List D → Nat → Prop) → Prop
abbrev DT := Env → Nat → (Bool → Nat → Prop) → Prop
/-- what the machine wants ahead of e, for Q behind it -/
def wpE (X : Cx) (e : Expr) : TE := fun σ H Q => ∀ pins s, Inv X pins σ H s → wpAny (model X.prog X.w) X.A (eval e X.env) (EP X pins σ Q) X.xe s
def wpA (X : Cx) (es : List Expr) : TA := fun σ H Q => ∀ pos pins s, Inv X pins σ H s → wpAny (model X.prog X.w) X.A (spliced (backTo pos (starEach es X.env))) (AP X pins σ Q) X.xe s
def wpT (X : Cx) (e : Expr) : TT := fun σ H Q => ∀ pins s, Inv X pins σ H s → wpAny (model X.prog X.w) X.A (isTrue e X.env (eval e X.env)) (TP X pins σ Q) X.xe s
theorem pe_self {X : Cx} {e : Expr} : PE X e (wpE X e) := ⟨fun pins s σ H Q I h => h pins s I⟩
theorem pa_self {X : Cx} {es : List Expr} : PA X es (wpA X es) := ⟨fun pos pins s σ H Q I h => h pos pins s I⟩
theorem pt_self {X : Cx} {e : Expr} : PT X e (wpT X e) := ⟨fun pins s σ H Q I h => h pins s I⟩
theorem wp_of {X : Cx} {e : Expr} {t : TE} (h : PE X e t) {σ H Q} (q : t σ H Q) : wpE X e σ H Q := fun pins s I => h.run pins s σ H Q I q
theorem wpA_of {X : Cx} {es : List Expr} {t : TA} (h : PA X es t) {σ H Q} (q : t σ H Q) : wpA X es σ H Q := fun pos pins s I => h.run pos pins s σ H Q I q
theorem wpT_of {X : Cx} {e : Expr} {t : TT} (h : PT X e t) {σ H Q} (q : t σ H Q) : wpT X e σ H Q := fun pins s I => h.run pins s σ H Q I q

structure De (X : Cx) (e : Expr) (t : DE) : Prop where
  run : ∀ w σ H env m Q' Q, Sls w H σ env → UI w m H → t env m Q' → Ct w H Q' Q → wpE X e σ H Q
structure Da (X : Cx) (es : List Expr) (t : DA) : Prop where
  run : ∀ w σ H env m Q' Q, Sls w H σ env → UI w m H → t env m Q' → Cts w H Q' Q → wpA X es σ H Q
structure Dt (X : Cx) (e : Expr) (t : DT) : Prop where
  run : ∀ w σ H env m Q' Q, Sls w H σ env → UI w m H → t env m Q' → Ctb w H Q' Q → wpT X e σ H Q

section
variable {X : Cx} {e : Expr} {es : List Expr} {te ta tb : DE} {pos : Pos}
def dVar (i : Nat) : DE := fun env m Q => ∃ d, env[i]? = some (some d) ∧ Q d m
def dC (d : D) : DE := fun _ m Q => Q d m
theorem dv (i : Nat) {x : Str} (hN : X.N[i]? = some x := by rfl) (hv : Vis X.env.scope x := by first | exact Or.inl rfl | exact Or.inr (Or.inl rfl) | exact Or.inr (Or.inr rfl)) (hd : (x == ("__debug__" : Str)) = false := by decide)
    (hcd : (x == ("__classdict__" : Str)) = false := by decide) : De X (.Name x pos) (dVar i) := by
  refine ⟨fun w σ H env m Q' Q hs hu h c => ?_⟩
  obtain ⟨d, e, q⟩ := h
  obtain ⟨v, e1, h1⟩ := hs.2 i d e
  exact wp_of (pe_var hN hv hd hcd) ⟨v, e1, c v d m H (Fr.refl _ _) hu h1 q⟩
theorem de_int {i j} : De X (.Constant (.int i) j pos) (dC (.int i)) := ⟨fun w σ H env m Q' Q hs hu h c => wp_of pe_int (c _ _ _ _ (Fr.refl _ _) hu (by unfold Hd; rfl) h)⟩
theorem de_bl {b j} : De X (.Constant (.bool b) j pos) (dC (.bl b)) := ⟨fun w σ H env m Q' Q hs hu h c => wp_of pe_bl (c _ _ _ _ (Fr.refl _ _) hu (by unfold Hd; rfl) h)⟩
theorem de_non {j} : De X (.Constant .none j pos) (dC .non) := ⟨fun w σ H env m Q' Q hs hu h c => wp_of pe_non (c _ _ _ _ (Fr.refl _ _) hu (by unfold Hd; rfl) h)⟩
theorem de_str {x j} : De X (.Constant (.str x) j pos) (dC (.str x)) := ⟨fun w σ H env m Q' Q hs hu h c => wp_of pe_str (c _ _ _ _ (Fr.refl _ _) hu (by unfold Hd; rfl) h)⟩

/-! ### argument lists, displays -/
def dNil : DA := fun _ m Q => Q [] m
def dCons (ta : DE) (tr : DA) : DA := fun env m Q => ta env m fun x m1 => tr env m1 fun xs m2 => Q (x :: xs) m2
/-- the program's own empty tuple -/
def Ez (K : PySem.W.Frag) : Prop := ∃ (o : Obj) (n : Nat), K.lookup Cl.e0 = some o ∧ o.cls = .type "tuple" ∧ o.data = .seq #[] n
theorem Ez.sq {K : PySem.W.Frag} (h : Ez K) {H : Hp} : SqT K H Cl.e0 [] := by
  obtain ⟨o, n, h1, h2, h3⟩ := h
  exact .inr ⟨o, #[], n, h1, h2, h3, Nat.zero_le _, .nil⟩
def dStar (K : PySem.W.Frag) (ta : DE) (tr : DA) : DA := fun env m Q => ta env m fun x m1 => ∃ l, (x = .tup l ∨ x = .lst l ∨ (x = .ext ∧ l = [] ∧ Ez K)) ∧ tr env m1 fun xs m2 => Q (l ++ xs) m2
theorem da_nil : Da X [] dNil := ⟨fun w σ H env m Q' Q hs hu h c => wpA_of pa_nil (c _ _ _ _ (Fr.refl _ _) hu .nil h)⟩
theorem da_cons {tr : DA} (ha : De X e ta) (hr : Da X es tr) (hs : starEach (e :: es) X.env = (false, eval e X.env) :: starEach es X.env := by rfl) : Da X (e :: es) (dCons ta tr) := by
  refine ⟨fun w σ H env m Q' Q sl hu h c => wpA_of (pa_cons pe_self pa_self hs) ?_⟩
  refine ha.run w σ H env m _ _ sl hu h fun v d m1 H1 f1 u1 h1 q1 => ?_
  refine hr.run w σ H1 env m1 _ _ (sl.fr f1) u1 q1 fun vs ds m2 H2 f2 u2 h2 q2 => ?_
  exact c _ _ _ _ (f1.trans f2) u2 (.cons (h1.fr f2) h2) q2
def dTup (t : DA) : DE := fun env m Q => t env m fun ds m1 => ds.length ≤ sizeLine ∧ Q (.tup ds) m1
def dLst (t : DA) : DE := fun env m Q => t env m fun ds m1 => ds.length ≤ sizeLine ∧ Q (.lst ds) m1
theorem new_tup {w : W} {H : Hp} {m : Nat} {p : Addr} {vs : List V} {ds : List D} (hu : UI w m H) (hs : Hds w H vs ds) (hp : H p = none) : Hd w (upd H p (.tup vs)) (.ref p) (.tup ds) := by
  unfold Hd
  exact ⟨p, vs, rfl, hu.new hp, upd_same, hs.fr (Fr.upd hp)⟩
theorem new_lst {w : W} {H : Hp} {m : Nat} {p : Addr} {vs : List V} {ds : List D} (hu : UI w m H) (hs : Hds w H vs ds) (hp : H p = none) : Hd w (upd H p (.lst vs)) (.ref p) (.lst ds) := by
  unfold Hd
  exact ⟨p, vs, rfl, hu.new hp, upd_same, hs.fr (Fr.upd hp)⟩
theorem de_tup {x1} {t : DA} (h : Da X es t) : De X (.Tuple es x1 pos) (dTup t) := by
  refine ⟨fun w σ H env m Q' Q sl hu hh c => wp_of (pe_tup pa_self) ?_⟩
  refine h.run w σ H env m _ _ sl hu hh fun vs ds m1 H1 f1 u1 h1 ⟨hz, q1⟩ => ⟨by rw [h1.len]; exact hz, fun p hp => ?_⟩
  exact c _ _ _ _ (f1.trans (Fr.upd hp)) (u1.upd hp) (new_tup u1 h1 hp) q1
theorem de_lst {t : DA} (h : Da X es t) : De X (.List es pos) (dLst t) := by
  refine ⟨fun w σ H env m Q' Q sl hu hh c => wp_of (pe_lst pa_self) ?_⟩
  refine h.run w σ H env m _ _ sl hu hh fun vs ds m1 H1 f1 u1 h1 ⟨hz, q1⟩ => ⟨by rw [h1.len]; exact hz, fun p hp => ?_⟩
  exact c _ _ _ _ (f1.trans (Fr.upd hp)) (u1.upd hp) (new_lst u1 h1 hp) q1
end
end TC
namespace TC
open PySem PySem.Spec PyProof.Rows L2
variable [Cl]

/-! ### operators by data -/
abbrev D2 := D → D → Nat → (D → Nat → Prop) → Prop
def wpOp (X : Cx) (f : Value → Value → Sem Value) : R2 := fun x y H Q => ∀ pins s σ v u, Inv X pins σ H s → RelV x v → RelV y u → wpAny (model X.prog X.w) X.A (f v u) (EP X pins σ Q) X.xe s
theorem op_self {X : Cx} {f : Value → Value → Sem Value} : OpR X f (wpOp X f) := fun pins s σ H x y v u Q I rx ry h => h pins s σ v u I rx ry
theorem wpOp_of {X : Cx} {f : Value → Value → Sem Value} {r : R2} (h : OpR X f r) {x y H Q} (q : r x y H Q) : wpOp X f x y H Q := fun pins s σ v u I rx ry => h pins s σ H x y v u Q I rx ry q
structure DOp (X : Cx) (f : Value → Value → Sem Value) (t : D2) : Prop where
  run : ∀ w H m x y dx dy Q' Q, UI w m H → Hd w H x dx → Hd w H y dy → t dx dy m Q' → Ct w H Q' Q → wpOp X f x y H Q
def dBin (t : D2) (ta tb : DE) : DE := fun env m Q => ta env m fun x m1 => tb env m1 fun y m2 => t x y m2 Q
section
variable {X : Cx} {a b e : Expr} {es : List Expr} {te ta tb : DE} {t : D2} {pos : Pos}
theorem bin_run {f : Value → Value → Sem Value} (ho : DOp X f t) (ha : De X a ta) (hb : De X b tb) {w σ H env m Q' Q} (sl : Sls w H σ env) (hu : UI w m H) (h : dBin t ta tb env m Q') (c : Ct w H Q' Q) : tOp (wpOp X f) (wpE X a) (wpE X b) σ H Q := by
  refine ha.run w σ H env m _ _ sl hu h fun v d m1 H1 f1 u1 h1 q1 => ?_
  refine hb.run w σ H1 env m1 _ _ (sl.fr f1) u1 q1 fun v2 d2 m2 H2 f2 u2 h2 q2 => ?_
  exact ho.run w H2 m2 v v2 d d2 _ _ u2 (h1.fr f2) h2 q2 (c.from (f1.trans f2))
theorem de_op {op : Operator} (ho : DOp X (binaryOp op) t) (ha : De X a ta) (hb : De X b tb) : De X (.BinOp a op b pos) (dBin t ta tb) :=
  ⟨fun w σ H env m Q' Q sl hu h c => wp_of (pe_op op_self pe_self pe_self) (bin_run ho ha hb sl hu h c)⟩
theorem de_cmp {op : CmpOp} (ho : DOp X (compareOp op) t) (ha : De X a ta) (hb : De X b tb) (hm : behindInMarks op b = false := by first | exact nomark _ | rfl) : De X (.Compare a [op] [b] pos) (dBin t ta tb) :=
  ⟨fun w σ H env m Q' Q sl hu h c => wp_of (pe_cmpR op_self pe_self pe_self hm) (bin_run ho ha hb sl hu h c)⟩
/-- a value that is a bool, as a test -/
def dB (t : DE) : DT := fun env m Q => t env m fun d m1 => ∃ b, d = .bl b ∧ Q b m1
theorem dt_cmp {op : CmpOp} (ho : DOp X (compareOp op) t) (ha : De X a ta) (hb : De X b tb) (hm : behindInMarks op b = false := by first | exact nomark _ | rfl) : Dt X (.Compare a [op] [b] pos) (dB (dBin t ta tb)) := by
  refine ⟨fun w σ H env m Q' Q sl hu h c => wpT_of (pt_cmpR op_self pe_self pe_self hm) ?_⟩
  show tTest (tOp (wpOp X (compareOp op)) (wpE X a) (wpE X b)) σ H Q
  refine bin_run ho ha hb sl hu h fun v d m1 H1 f1 u1 h1 q1 => ?_
  obtain ⟨k, rfl, q⟩ := q1
  unfold Hd at h1
  exact ⟨k, h1, c k m1 H1 f1 u1 q⟩
theorem dt_val (h : De X e te) (he : ∀ whole, isTrue e X.env whole = (do let v ← whole; standAt e.pos; holding [v] (truthy v)) := by intro _; rfl) : Dt X e (dB te) := by
  refine ⟨fun w σ H env m Q' Q sl hu hh c => wpT_of (pt_val pe_self he) ?_⟩
  refine h.run w σ H env m _ _ sl hu hh fun v d m1 H1 f1 u1 h1 q1 => ?_
  obtain ⟨k, rfl, q⟩ := q1
  unfold Hd at h1
  exact ⟨k, h1, c k m1 H1 f1 u1 q⟩
end

section
variable {X : Cx}
/-- the simple values -/
def fv : D → V
  | .bl b => .bl b
  | .int i => .int i
  | .str s => .str s
  | _ => .non
def flatD : D → Bool
  | .non => true
  | .bl _ => true
  | .int _ => true
  | .str _ => true
  | _ => false
theorem Hd.flat {w : W} {H : Hp} {v : V} {d : D} (h : Hd w H v d) (f : flatD d = true) : v = fv d := by
  cases d <;> first | (unfold Hd at h; exact h) | (simp [flatD] at f)
theorem flat_fv {d : D} (f : flatD d = true) : flatV (fv d) = true := by
  cases d <;> first | rfl | (simp [flatD] at f)
theorem Hds.flat {w : W} {H : Hp} : ∀ {ds : List D} {vs : List V}, Hds w H vs ds → ds.all flatD = true → vs = ds.map fv
  | [], vs, h, _ => h.unnil
  | d :: ds, vs, h, f => by
    obtain ⟨x, xs, rfl, h1, h2⟩ := h.uncons
    simp only [List.all_cons, Bool.and_eq_true] at f
    rw [h1.flat f.1, h2.flat f.2]; rfl
theorem Hd.of_flat {w : W} {H : Hp} {d : D} (f : flatD d = true) : Hd w H (fv d) d := by
  cases d <;> first | (unfold Hd; rfl) | (simp [flatD] at f)

def dadd : D2 := fun x y m Q => match x, y with
  | .int i, .int j => Q (.int (i + j)) m
  | .str a, .str b => a.length + b.length ≤ sizeLine ∧ Q (.str (a ++ b)) m
  | .lst a, .lst b => a.length + b.length ≤ sizeLine ∧ Q (.lst (a ++ b)) m
  | .tup a, .tup b => a.length + b.length ≤ sizeLine ∧ Q (.tup (a ++ b)) m
  | _, _ => False
theorem Hd.int {w : W} {H : Hp} {v : V} {i : Int} : Hd w H v (.int i) ↔ v = .int i := by unfold Hd; rfl
theorem Hd.bl {w : W} {H : Hp} {v : V} {b : Bool} : Hd w H v (.bl b) ↔ v = .bl b := by unfold Hd; rfl
theorem Hd.str {w : W} {H : Hp} {v : V} {s : Str} : Hd w H v (.str s) ↔ v = .str s := by unfold Hd; rfl
theorem Hd.non {w : W} {H : Hp} {v : V} : Hd w H v .non ↔ v = .non := by unfold Hd; rfl
theorem Hd.lst {w : W} {H : Hp} {v : V} {l : List D} : Hd w H v (.lst l) ↔ ∃ a vs, v = .ref a ∧ ¬ w.av a ∧ H a = some (.lst vs) ∧ Hds w H vs l := by rw [Hd]
theorem Hd.tup {w : W} {H : Hp} {v : V} {l : List D} : Hd w H v (.tup l) ↔ ∃ a vs, v = .ref a ∧ ¬ w.av a ∧ H a = some (.tup vs) ∧ Hds w H vs l := by rw [Hd]
theorem do_add : DOp X (binaryOp .Add) dadd := by
  refine ⟨fun w H m x y dx dy Q' Q hu hx hy h c => ?_⟩
  unfold dadd at h
  split at h
  · rw [Hd.int] at hx hy
    subst hx; subst hy
    exact wpOp_of op_add ⟨_, _, rfl, rfl, c _ _ _ _ (Fr.refl _ _) hu (Hd.int.mpr rfl) h⟩
  · rw [Hd.str] at hx hy
    subst hx; subst hy
    exact wpOp_of op_add_str ⟨_, _, rfl, rfl, h.1, c _ _ _ _ (Fr.refl _ _) hu (Hd.str.mpr rfl) h.2⟩
  · rw [Hd.lst] at hx hy
    obtain ⟨a, vs, rfl, na, ha, hs⟩ := hx
    obtain ⟨b, us, rfl, nb, hb, gs⟩ := hy
    refine wpOp_of op_cat ⟨_, _, _, _, rfl, rfl, ha, hb, by rw [hs.len, gs.len]; exact h.1, fun p hp => ?_⟩
    exact c _ _ _ _ (Fr.upd hp) (hu.upd hp) (new_lst hu (hs.app gs) hp) h.2
  · have ix := hx
    have iy := hy
    rw [Hd.tup] at hx hy
    obtain ⟨a, vs, rfl, na, ha, hs⟩ := hx
    obtain ⟨b, us, rfl, nb, hb, gs⟩ := hy
    refine wpOp_of op_catA ⟨_, _, _, _, rfl, rfl, SqT.of ha, SqT.of hb, by rw [hs.len, gs.len]; exact h.1, fun e => ?_, fun e1 e2 => ?_, fun e1 e2 p hp => ?_⟩
    · subst e
      have e2 := hs.len
      simp only [List.length_nil] at e2
      have e3 := List.length_eq_zero_iff.mp e2.symm
      subst e3
      exact c _ _ _ _ (Fr.refl _ _) hu iy h.2
    · subst e2
      have e2 := gs.len
      simp only [List.length_nil] at e2
      have e3 := List.length_eq_zero_iff.mp e2.symm
      subst e3
      rw [List.append_nil] at h
      exact c _ _ _ _ (Fr.refl _ _) hu ix h.2
    · exact c _ _ _ _ (Fr.upd hp) (hu.upd hp) (new_tup hu (hs.app gs) hp) h.2
  · exact h.elim
def dI (C : Int → Int → Prop) (g : Int → Int → D) : D2 := fun x y m Q => ∃ i j, x = .int i ∧ y = .int j ∧ C i j ∧ Q (g i j) m
theorem do_I {f : Value → Value → Sem Value} {C : Int → Int → Prop} {g : Int → Int → V} {g' : Int → Int → D} (ho : OpR X f (rI C g)) (hg : ∀ i j, flatD (g' i j) = true ∧ g i j = fv (g' i j)) : DOp X f (dI C g') := by
  refine ⟨fun w H m x y dx dy Q' Q hu hx hy h c => ?_⟩
  obtain ⟨i, j, rfl, rfl, hc, q⟩ := h
  rw [Hd.int] at hx hy
  subst hx; subst hy
  refine wpOp_of ho ⟨_, _, rfl, rfl, hc, ?_⟩
  rw [(hg i j).2]
  exact c _ _ _ _ (Fr.refl _ _) hu (Hd.of_flat (hg i j).1) q
theorem do_I0 {f : Value → Value → Sem Value} {g : Int → Int → V} {g' : Int → Int → D} (ho : OpR X f (rI0 g)) (hg : ∀ i j, flatD (g' i j) = true ∧ g i j = fv (g' i j)) : DOp X f (dI (fun _ _ => True) g') := by
  refine ⟨fun w H m x y dx dy Q' Q hu hx hy h c => ?_⟩
  obtain ⟨i, j, rfl, rfl, hc, q⟩ := h
  rw [Hd.int] at hx hy
  subst hx; subst hy
  refine wpOp_of ho ⟨_, _, rfl, rfl, ?_⟩
  rw [(hg i j).2]
  exact c _ _ _ _ (Fr.refl _ _) hu (Hd.of_flat (hg i j).1) q
theorem do_sub : DOp X (binaryOp .Sub) (dI (fun _ _ => True) fun i j => .int (i - j)) := do_I0 op_sub fun _ _ => ⟨rfl, rfl⟩
theorem do_mod : DOp X (binaryOp .Mod) (dI (fun _ j => 0 < j) fun i j => .int (i % j)) := do_I op_mod fun _ _ => ⟨rfl, rfl⟩
theorem do_fdiv : DOp X (binaryOp .FloorDiv) (dI (fun _ j => 0 < j ∧ j < 2 ^ 30) fun i j => .int (i / j)) := do_I op_fdiv fun _ _ => ⟨rfl, rfl⟩
theorem do_lt : DOp X (compareOp .Lt) (dI (fun _ _ => True) fun i j => .bl (decide (i < j))) := do_I0 op_lt fun _ _ => ⟨rfl, rfl⟩
theorem do_le : DOp X (compareOp .LtE) (dI (fun _ _ => True) fun i j => .bl (decide (i ≤ j))) := do_I0 op_le fun _ _ => ⟨rfl, rfl⟩
theorem do_gt : DOp X (compareOp .Gt) (dI (fun _ _ => True) fun i j => .bl (decide (i > j))) := do_I0 op_gt fun _ _ => ⟨rfl, rfl⟩
theorem do_ge : DOp X (compareOp .GtE) (dI (fun _ _ => True) fun i j => .bl (decide (i ≥ j))) := do_I0 op_ge fun _ _ => ⟨rfl, rfl⟩
/-- == of simple values -/
def deq (neg : Bool) : D2 := fun x y m Q => flatD x = true ∧ flatD y = true ∧ scal (fv x) (fv y) = true ∧ Q (.bl (if neg then !decide (fv x = fv y) else decide (fv x = fv y))) m
theorem do_eq : DOp X (compareOp .Eq) (deq false) := by
  refine ⟨fun w H m x y dx dy Q' Q hu hx hy h c => ?_⟩
  obtain ⟨f1, f2, h3, q⟩ := h
  have e1 := hx.flat f1
  have e2 := hy.flat f2
  subst e1; subst e2
  exact wpOp_of op_eq ⟨h3, c _ _ _ _ (Fr.refl _ _) hu (Hd.bl.mpr rfl) q⟩
theorem do_ne : DOp X (compareOp .NotEq) (deq true) := by
  refine ⟨fun w H m x y dx dy Q' Q hu hx hy h c => ?_⟩
  obtain ⟨f1, f2, h3, q⟩ := h
  have e1 := hx.flat f1
  have e2 := hy.flat f2
  subst e1; subst e2
  exact wpOp_of op_ne ⟨h3, c _ _ _ _ (Fr.refl _ _) hu (Hd.bl.mpr rfl) q⟩
/-- x in y, y a list or a tuple of simple things -/
def din (neg : Bool) : D2 := fun x y m Q => ∃ l, (y = .lst l ∨ y = .tup l) ∧ flatD x = true ∧ l.all flatD = true ∧ Q (.bl (if neg then !inV (fv x) (l.map fv) else inV (fv x) (l.map fv))) m
theorem all_flat {l : List D} (h : l.all flatD = true) : (l.map fv).all flatV = true := by
  rw [List.all_eq_true] at h ⊢
  intro v hv
  obtain ⟨d, hd, rfl⟩ := List.mem_map.mp hv
  exact flat_fv (h d hd)
theorem in_run {neg : Bool} {w H m x y dx dy Q' Q} (hu : UI w m H) (hx : Hd w H x dx) (hy : Hd w H y dy) (h : din neg dx dy m Q') (c : Ct w H Q' Q) : rIn X.K neg x y H Q := by
  obtain ⟨l, hl, f1, f2, q⟩ := h
  have e1 := hx.flat f1
  subst e1
  rcases hl with rfl | rfl
  · rw [Hd.lst] at hy
    obtain ⟨a, vs, rfl, na, ha, hs⟩ := hy
    have e2 := hs.flat f2
    subst e2
    exact ⟨_, _, rfl, .inl (SqL.of ha), flat_fv f1, all_flat f2, c _ _ _ _ (Fr.refl _ _) hu (Hd.bl.mpr rfl) q⟩
  · rw [Hd.tup] at hy
    obtain ⟨a, vs, rfl, na, ha, hs⟩ := hy
    have e2 := hs.flat f2
    subst e2
    exact ⟨_, _, rfl, .inr (SqT.of ha), flat_fv f1, all_flat f2, c _ _ _ _ (Fr.refl _ _) hu (Hd.bl.mpr rfl) q⟩
theorem do_in : DOp X (compareOp .In) (din false) := ⟨fun w H m x y dx dy Q' Q hu hx hy h c => wpOp_of op_in_seq (in_run hu hx hy h c)⟩
theorem do_notin : DOp X (compareOp .NotIn) (din true) := ⟨fun w H m x y dx dy Q' Q hu hx hy h c => wpOp_of op_notIn_seq (in_run hu hx hy h c)⟩
end

/-! ### subscripts -/
def wpIx (X : Cx) : R2 := fun x y H Q => ∀ (value slice : Expr) pins s σ v u, Inv X pins σ H s → RelV x v → RelV y u → subscripted slice false v u = operate [v, u] (getItem v u) → wpAny (model X.prog X.w) X.A (subscriptTail value slice v u) (EP X pins σ Q) X.xe s
theorem ix_self {X : Cx} : IxR X (wpIx X) := fun value slice pins s σ H x y v u Q I rx ry h hs => h value slice pins s σ v u I rx ry hs
theorem wpIx_of {X : Cx} {r : R2} (h : IxR X r) {x y H Q} (q : r x y H Q) : wpIx X x y H Q := fun value slice pins s σ v u I rx ry hs => h value slice pins s σ H x y v u Q I rx ry q hs
def dix : D2 := fun x y m Q => ∃ i, y = .int i ∧ ((∃ l d, (x = .lst l ∨ x = .tup l) ∧ atI l i = some d ∧ Q d m) ∨ ∃ z c, x = .str z ∧ z.length ≤ sizeLine ∧ atI z.cps.toList i = some c ∧ Q (.str ⟨#[c]⟩) m)
theorem Hds.at {w : W} {H : Hp} {ds : List D} {vs : List V} {i : Int} {d : D} (h : Hds w H vs ds) (e : atI ds i = some d) : ∃ v, atI vs i = some v ∧ Hd w H v d := by
  unfold atI at e ⊢
  rw [h.len]
  cases q : ixN ds.length i with
  | none => rw [q] at e; cases e
  | some j =>
    rw [q] at e
    exact h.get (i := j) e
section
variable {X : Cx} {a b e : Expr} {te ta tb : DE} {pos p2 : Pos}
theorem de_ix (ha : De X a ta) (hb : De X b tb) (hs : PlainIx b := by intro _ _; rfl) : De X (.Subscript a b pos) (dBin dix ta tb) := by
  refine ⟨fun w σ H env m Q' Q sl hu h c => wp_of (pe_ix ix_self pe_self pe_self hs) ?_⟩
  refine ha.run w σ H env m _ _ sl hu h fun v d m1 H1 f1 u1 h1 q1 => ?_
  refine hb.run w σ H1 env m1 _ _ (sl.fr f1) u1 q1 fun v2 d2 m2 H2 f2 u2 h2 q2 => ?_
  obtain ⟨i, rfl, q2⟩ := q2
  rw [Hd.int] at h2
  subst h2
  have h1 := h1.fr f2
  rcases q2 with ⟨l, d', hl, e, q⟩ | ⟨z, ch, rfl, hz, e, q⟩
  · rcases hl with rfl | rfl
    · rw [Hd.lst] at h1
      obtain ⟨p, vs, rfl, na, hp, hds⟩ := h1
      obtain ⟨v, e2, hv⟩ := hds.at e
      exact wpIx_of ix_list ⟨_, _, _, _, rfl, rfl, SqL.of hp, e2, c _ _ _ _ (f1.trans f2) u2 hv q⟩
    · rw [Hd.tup] at h1
      obtain ⟨p, vs, rfl, na, hp, hds⟩ := h1
      obtain ⟨v, e2, hv⟩ := hds.at e
      exact wpIx_of ix_tup ⟨_, _, _, _, rfl, rfl, SqT.of hp, e2, c _ _ _ _ (f1.trans f2) u2 hv q⟩
  · rw [Hd.str] at h1
    subst h1
    exact wpIx_of ix_str ⟨_, _, _, rfl, rfl, hz, e, c _ _ _ _ (f1.trans f2) u2 (Hd.str.mpr rfl) q⟩
/-! ### slices -/
abbrev DO := Env → Nat → (Option Int → Nat → Prop) → Prop
structure Dp (X : Cx) (e : Option Expr) (t : DO) : Prop where
  run : ∀ w σ H env m Q' (Q : Option Int → Hp → Prop), Sls w H σ env → UI w m H → t env m Q' → (∀ o m' H', Fr w H H' → UI w m' H' → Q' o m' → Q o H') → ∀ pins s, Inv X pins σ H s → wpAny (model X.prog X.w) X.A (evalPart e X.env) (fun u s' => ∃ o H', Inv X pins σ H' s' ∧ IsPart u o ∧ Q o H') X.xe s
def wpO (X : Cx) (e : Option Expr) : TO := fun σ H Q => ∀ pins s, Inv X pins σ H s → wpAny (model X.prog X.w) X.A (evalPart e X.env) (fun u s' => ∃ o H', Inv X pins σ H' s' ∧ IsPart u o ∧ Q o H') X.xe s
theorem po_self {o : Option Expr} : PO X o (wpO X o) := ⟨fun pins s σ H Q I h => h pins s I⟩
def dNo : DO := fun _ m Q => Q none m
def dSo (t : DE) : DO := fun env m Q => t env m fun d m1 => ∃ i, d = .int i ∧ Q (some i) m1
theorem dp_none : Dp X none dNo := ⟨fun w σ H env m Q' Q sl hu h c pins s I => po_none.run pins s σ H Q I (c _ _ _ (Fr.refl _ _) hu h)⟩
theorem dp_some (h : De X e te) : Dp X (some e) (dSo te) := by
  refine ⟨fun w σ H env m Q' Q sl hu hh c pins s I => (po_some pe_self).run pins s σ H Q I ?_⟩
  refine h.run w σ H env m _ _ sl hu hh fun v d m1 H1 f1 u1 h1 q1 => ?_
  obtain ⟨i, rfl, q⟩ := q1
  rw [Hd.int] at h1
  exact ⟨i, h1, c _ _ _ f1 u1 q⟩
def wpSl (X : Cx) : V → Option Int → Option Int → Hp → VK → Prop := fun x lo hi H Q => ∀ pins s σ v vl vu sl, Inv X pins σ H s → RelV x v → s.heap.IsSliceOf sl vl vu .none → IsPart vl lo → IsPart vu hi →
    ∃ T id, typeLookup (.type T) "__getitem__" = pure (some (.builtin id)) ∧ s.TypeIs v T ∧ wpAny (model X.prog X.w) X.A (getItem v (.ref sl)) (EP X pins σ Q) X.xe s
theorem sl_self : SlR X (wpSl X) := fun pins s σ H x v vl vu lo hi sl Q I rx hs pl pu h => h pins s σ v vl vu sl I rx hs pl pu
theorem wpSl_of {r : V → Option Int → Option Int → Hp → VK → Prop} (h : SlR X r) {x lo hi H Q} (q : r x lo hi H Q) : wpSl X x lo hi H Q := fun pins s σ v vl vu sl I rx hs pl pu => h pins s σ H x v vl vu lo hi sl Q I rx hs pl pu q
def cutD {α : Type} (xs : List α) (lo hi : Option Int) : List α := (xs.drop (HT.sIx xs.length 0 lo)).take (HT.sIx xs.length xs.length hi - HT.sIx xs.length 0 lo)
def dsl (x : D) (lo hi : Option Int) (m : Nat) (Q : D → Nat → Prop) : Prop := match x with
  | .lst l => Q (.lst (cutD l lo hi)) m
  | .tup l => Q (.tup (cutD l lo hi)) m
  | .str z => z.length ≤ sizeLine ∧ Q (.str (cutS z lo hi)) m
  | _ => False
theorem Hds.cut {w : W} {H : Hp} {ds : List D} {vs : List V} {lo hi : Option Int} (h : Hds w H vs ds) : Hds w H (cutV vs lo hi) (cutD ds lo hi) := by
  unfold cutV cutD
  rw [h.len]
  exact (h.drop _).take _
theorem cut_all {l : List D} {lo hi : Option Int} (h : HT.sIx l.length 0 lo = 0 ∧ HT.sIx l.length l.length hi = l.length) : cutD l lo hi = l := by
  unfold cutD
  rw [h.1, h.2]
  simp
def dSlice (te : DE) (tl th : DO) : DE := fun env m Q => te env m fun x m1 => tl env m1 fun l m2 => th env m2 fun u m3 => dsl x l u m3 Q
theorem de_slice {lo hi : Option Expr} {tl th : DO} (he : De X e te) (hl : Dp X lo tl) (hh : Dp X hi th) : De X (.Subscript e (.Slice lo hi none p2) pos) (dSlice te tl th) := by
  refine ⟨fun w σ H env m Q' Q sl hu h c => wp_of (pe_slice sl_self pe_self po_self po_self) ?_⟩
  refine he.run w σ H env m _ _ sl hu h fun v d m1 H1 f1 u1 h1 q1 => ?_
  refine hl.run w σ H1 env m1 _ _ (sl.fr f1) u1 q1 fun l m2 H2 f2 u2 q2 => ?_
  refine hh.run w σ H2 env m2 _ _ (sl.fr (f1.trans f2)) u2 q2 fun u m3 H3 f3 u3 q3 => ?_
  have h3 := h1.fr (f2.trans f3)
  have fr := f1.trans (f2.trans f3)
  unfold dsl at q3
  split at q3
  · rw [Hd.lst] at h3
    obtain ⟨p, vs, rfl, na, hp, hds⟩ := h3
    refine wpSl_of sl_list ⟨_, _, rfl, SqL.of hp, fun q hq => ?_⟩
    exact c _ _ _ _ (fr.trans (Fr.upd hq)) (u3.upd hq) (new_lst u3 hds.cut hq) q3
  · have h4 := h3
    rw [Hd.tup] at h3
    obtain ⟨p, vs, rfl, na, hp, hds⟩ := h3
    refine wpSl_of sl_tupA ⟨_, _, rfl, SqT.of hp, fun hw => ?_, fun hw q hq => ?_⟩
    · rw [hds.len] at hw
      rw [cut_all hw] at q3
      exact c _ _ _ _ fr u3 h4 q3
    · exact c _ _ _ _ (fr.trans (Fr.upd hq)) (u3.upd hq) (new_tup u3 hds.cut hq) q3
  · rw [Hd.str] at h3
    subst h3
    exact wpSl_of sl_str ⟨_, rfl, q3.1, c _ _ _ _ fr u3 (Hd.str.mpr rfl) q3.2⟩
  · exact q3.elim
end

/-! ### calls -/
/-- a def's promise by data -/
abbrev DSp := List D → Nat → (D → Nat → Prop) → Prop
def spD (sp : DSp) : Sp := fun vs H Q _ => ∃ (w : W) (ds : List D) (m : Nat) (Q' : D → Nat → Prop), Hds w H vs ds ∧ UI w m H ∧ sp ds m Q' ∧ Ct w H Q' Q
def wpC (X : Cx) (f : Value) : List V → Hp → VK → Prop := fun xs H Q => ∀ pins s σ us, Inv X pins σ H s → Vals xs us → wpAny (model X.prog X.w) X.A (call f us) (EP X pins σ Q) X.xe s
theorem c_self {X : Cx} {f : Value} : CallR X f (wpC X f) := fun pins s σ H xs us Q I r h => h pins s σ us I r
theorem wpC_of {X : Cx} {f : Value} {r : List V → Hp → VK → Prop} (h : CallR X f r) {xs H Q} (q : r xs H Q) : wpC X f xs H Q := fun pins s σ us I rv => h pins s σ H xs us Q I rv q
structure DCall (X : Cx) (f : Value) (t : DSp) : Prop where
  run : ∀ w H m vs ds Q' Q, UI w m H → Hds w H vs ds → t ds m Q' → Ct w H Q' Q → wpC X f vs H Q
def dCall (sp : DSp) (t : DA) : DE := fun env m Q => t env m fun ds m1 => sp ds m1 Q
def dCallK (sp : DSp) (g : List D → List D → List D) (t tk : DA) : DE := fun env m Q => t env m fun ds m1 => tk env m1 fun es m2 => sp (g ds es) m2 Q
section
variable {X : Cx} {k : Nat} {f : Addr} {fd : FuncData} {ps : List Str} {sp : DSp} {x : Str} {p pos : Pos} {e : Expr} {es : List Expr} {t : DA} {id T : String}
theorem de_call (F : FnOk X.prog X.w X.K X.mg X.base CX0 k f fd ps (spD sp)) (hr : Room k X.A) (hm : X.mg x = some (.ref f)) (hk : PySem.W.keepIn X.K (.ref f) = true) (hb : Binds X.K fd ps []) (ha : Da X (e :: es) t) (hg : Gl X x := by rfl)
    (hdb : (x == ("__debug__" : Str)) = false := by decide) (he : starEach (e :: es) X.env = (false, eval e X.env) :: starEach es X.env := by rfl) (hpl : (backTo pos (starEach es X.env)).any (·.1) = false := by rfl) : De X (.Call (.Name x p) (e :: es) [] pos) (dCall sp t) := by
  refine ⟨fun w σ H env m Q' Q sl hu h c => wp_of (pe_call F hr hg hm hk hb .nil pass0 pa_self hdb he hpl) ?_⟩
  refine ha.run w σ H env m _ _ sl hu h fun vs ds m1 H1 f1 u1 h1 q1 => ?_
  rw [List.append_nil]
  exact ⟨w, ds, m1, _, h1, u1, q1, c.from f1⟩
theorem de_callB (hc : DCall X (.builtin id) sp) (hm : X.mg x = none) (ha : Da X (e :: es) t) (hg : Gl X x := by rfl) (hv : bootBuiltins x = some (.builtin id) := by decide +kernel) (hn : x ≠ "__name__" := by decide) (hdb : (x == ("__debug__" : Str)) = false := by decide)
    (he : starEach (e :: es) X.env = (false, eval e X.env) :: starEach es X.env := by rfl) (hpl : (backTo pos (starEach es X.env)).any (·.1) = false := by rfl) : De X (.Call (.Name x p) (e :: es) [] pos) (dCall sp t) := by
  refine ⟨fun w σ H env m Q' Q sl hu h c => wp_of (pe_callB c_self hg hm hv pa_self hn hdb he hpl) ?_⟩
  refine ha.run w σ H env m _ _ sl hu h fun vs ds m1 H1 f1 u1 h1 q1 => ?_
  exact hc.run w H1 m1 vs ds _ _ u1 h1 q1 (c.from f1)
theorem de_callTy (hc : DCall X (.type T) sp) (hm : X.mg x = none) (ha : Da X (e :: es) t) (hg : Gl X x := by rfl) (hv : bootBuiltins x = some (.type T) := by decide +kernel) (hn : x ≠ "__name__" := by decide) (hdb : (x == ("__debug__" : Str)) = false := by decide)
    (he : starEach (e :: es) X.env = (false, eval e X.env) :: starEach es X.env := by rfl) (hpl : (backTo pos (starEach es X.env)).any (·.1) = false := by rfl) : De X (.Call (.Name x p) (e :: es) [] pos) (dCall sp t) := by
  refine ⟨fun w σ H env m Q' Q sl hu h c => wp_of (pe_callTy c_self hg hm hv pa_self hn hdb he hpl) ?_⟩
  refine ha.run w σ H env m _ _ sl hu h fun vs ds m1 H1 f1 u1 h1 q1 => ?_
  exact hc.run w H1 m1 vs ds _ _ u1 h1 q1 (c.from f1)
theorem dc_len : DCall X (.builtin "len") (fun ds m Q => ∃ l, (ds = [.lst l] ∨ ds = [.tup l]) ∧ Q (.int (l.length : Nat)) m) := by
  refine ⟨fun w H m vs ds Q' Q hu hs h c => ?_⟩
  obtain ⟨l, rfl | rfl, q⟩ := h
  all_goals
    obtain ⟨v, xs, rfl, h1, h2⟩ := hs.uncons
    cases h2.unnil
    first | rw [Hd.lst] at h1 | rw [Hd.tup] at h1
    obtain ⟨a, us, rfl, na, ha, hds⟩ := h1
    refine wpC_of call_len_seq ⟨_, us, rfl, ?_, ?_⟩
    rotate_left
    · rw [hds.len]
      exact c _ _ _ _ (Fr.refl _ _) hu (Hd.int.mpr rfl) q
    · first | exact .inl (SqL.of ha) | exact .inr (SqT.of ha)
theorem dc_list : DCall X (.type "list") (fun ds m Q => ∃ l, (ds = [.lst l] ∨ ds = [.tup l]) ∧ Q (.lst l) m) := by
  refine ⟨fun w H m vs ds Q' Q hu hs h c => ?_⟩
  obtain ⟨l, rfl | rfl, q⟩ := h
  all_goals
    obtain ⟨v, xs, rfl, h1, h2⟩ := hs.uncons
    cases h2.unnil
    first | rw [Hd.lst] at h1 | rw [Hd.tup] at h1
    obtain ⟨a, us, rfl, na, ha, hds⟩ := h1
    refine wpC_of call_list_of ⟨_, us, rfl, ?_, fun p hp => c _ _ _ _ (Fr.upd hp) (hu.upd hp) (new_lst hu hds hp) q⟩
    first | exact .inl (SqL.of ha) | exact .inr (SqT.of ha)
theorem dc_tuple : DCall X (.type "tuple") (fun ds m Q => ∃ l, (ds = [.lst l] ∨ ds = [.tup l]) ∧ Q (.tup l) m) := by
  refine ⟨fun w H m vs ds Q' Q hu hs h c => ?_⟩
  obtain ⟨l, rfl | rfl, q⟩ := h
  · obtain ⟨v, xs, rfl, h1, h2⟩ := hs.uncons
    cases h2.unnil
    rw [Hd.lst] at h1
    obtain ⟨a, us, rfl, na, ha, hds⟩ := h1
    exact wpC_of call_tuple_of ⟨_, us, rfl, .inl ⟨SqL.of ha, fun p hp => c _ _ _ _ (Fr.upd hp) (hu.upd hp) (new_tup hu hds hp) q⟩⟩
  · obtain ⟨v, xs, rfl, h1, h2⟩ := hs.uncons
    cases h2.unnil
    have h3 := h1
    rw [Hd.tup] at h1
    obtain ⟨a, us, rfl, na, ha, hds⟩ := h1
    exact wpC_of call_tuple_of ⟨_, us, rfl, .inr ⟨SqT.of ha, c _ _ _ _ (Fr.refl _ _) hu h3 q⟩⟩
theorem dc_int : DCall X (.type "int") (fun ds m Q => (∃ i, ds = [.int i] ∧ Q (.int i) m) ∨ ∃ k, ds = [.bl k] ∧ Q (.int (if k then 1 else 0)) m) := by
  refine ⟨fun w H m vs ds Q' Q hu hs h c => ?_⟩
  rcases h with ⟨i, rfl, q⟩ | ⟨i, rfl, q⟩
  · obtain ⟨v, xs, rfl, h1, h2⟩ := hs.uncons
    cases h2.unnil
    rw [Hd.int] at h1; subst h1
    exact wpC_of call_int1 (.inl ⟨_, rfl, c _ _ _ _ (Fr.refl _ _) hu (Hd.int.mpr rfl) q⟩)
  · obtain ⟨v, xs, rfl, h1, h2⟩ := hs.uncons
    cases h2.unnil
    rw [Hd.bl] at h1; subst h1
    exact wpC_of call_int1 (.inr ⟨_, rfl, c _ _ _ _ (Fr.refl _ _) hu (Hd.int.mpr rfl) q⟩)
theorem flat_all {w : W} {H : Hp} {l : List D} {vs : List V} (hs : Hds w H vs l) (h : l.all flatD = true) : vs = l.map fv := hs.flat h
theorem dc_all (hc : X.calm = true) : DCall X (.builtin "all") (fun ds m Q => ∃ bs : List Bool, ds = [.lst (bs.map D.bl)] ∧ Q (.bl (bs.all fun b => b)) m) := by
  refine ⟨fun w H m vs ds Q' Q hu hs h c => ?_⟩
  obtain ⟨bs, rfl, q⟩ := h
  obtain ⟨v, xs, rfl, h1, h2⟩ := hs.uncons
  cases h2.unnil
  rw [Hd.lst] at h1
  obtain ⟨a, us, rfl, na, ha, hds⟩ := h1
  have e := hds.flat (by rw [List.all_eq_true]; intro d hd; obtain ⟨b, _, rfl⟩ := List.mem_map.mp hd; rfl)
  subst e
  refine wpC_of (cr_all hc) ⟨a, bs, rfl, ?_, c _ _ _ _ (Fr.refl _ _) hu (Hd.bl.mpr rfl) q⟩
  have e : (bs.map D.bl).map fv = bs.map V.bl := by rw [List.map_map]; rfl
  rw [e] at ha
  exact SqL.of ha
/-- sorted of texts, fewer than 64 -/
theorem dc_sortedS : DCall X (.builtin "sorted") (fun ds m Q => ∃ xs : List Str, ds = [.lst (xs.map D.str)] ∧ xs.length < 64 ∧ ∀ ys : List Str, ys.Perm xs → sortedS ys = true → Q (.lst (ys.map D.str)) m) := by
  refine ⟨fun w H m vs ds Q' Q hu hs h c => ?_⟩
  obtain ⟨xs, rfl, hl, q⟩ := h
  obtain ⟨v, zs, rfl, h1, h2⟩ := hs.uncons
  cases h2.unnil
  rw [Hd.lst] at h1
  obtain ⟨a, us, rfl, na, ha, hds⟩ := h1
  have fl : ∀ l : List Str, (l.map D.str).all flatD = true := fun l => by rw [List.all_eq_true]; intro d hd; obtain ⟨b, _, rfl⟩ := List.mem_map.mp hd; rfl
  have e := hds.flat (fl xs)
  subst e
  have e : ∀ l : List Str, (l.map D.str).map fv = l.map V.str := fun l => by rw [List.map_map]; rfl
  rw [e] at ha
  refine wpC_of cr_sortedS ⟨a, xs, rfl, SqL.of ha, hl, fun ys p hp hst hn => ?_⟩
  refine c _ _ _ _ (Fr.upd hn) (hu.upd hn) (new_lst hu ?_ hn) (q ys hp hst)
  rw [← e]
  refine Hds.of (by simp) fun i v d h1 h2 => ?_
  rw [List.getElem?_map, h2] at h1
  have hd : d ∈ ys.map D.str := List.mem_of_getElem? h2
  obtain ⟨b, _, rfl⟩ := List.mem_map.mp hd
  simp only [Option.map_some, Option.some.injEq] at h1
  subst h1
  exact Hd.str.mpr rfl
end
end TC
namespace TC
open PySem PySem.Spec PyProof.Rows L2
variable [Cl]

section
variable {X : Cx} {e : Expr} {es : List Expr} {te : DE} {pos p : Pos} {tr : DA}
theorem da_star (ha : De X e te) (hr : Da X es tr) (hs : starEach (.Starred e p :: es) X.env = (true, eval e X.env) :: starEach es X.env := by rfl) : Da X (.Starred e p :: es) (dStar X.K te tr) := by
  refine ⟨fun w σ H env m Q' Q sl hu h c => wpA_of (StX.pa_star pe_self pa_self hs) ?_⟩
  refine ha.run w σ H env m _ _ sl hu h fun v d m1 H1 f1 u1 h1 q1 => ?_
  obtain ⟨l, hl, q1⟩ := q1
  have key : ∃ a us, v = .ref a ∧ Hds w H1 us l ∧ (SqT X.K H1 a us ∨ SqL X.K H1 a us) := by
    rcases hl with rfl | rfl | ⟨rfl, rfl, h0⟩
    · rw [Hd.tup] at h1
      obtain ⟨a, us, rfl, na, hp, hds⟩ := h1
      exact ⟨a, us, rfl, hds, .inl (SqT.of hp)⟩
    · rw [Hd.lst] at h1
      obtain ⟨a, us, rfl, na, hp, hds⟩ := h1
      exact ⟨a, us, rfl, hds, .inr (SqL.of hp)⟩
    · unfold Hd at h1
      exact ⟨_, [], h1, .nil, .inl h0.sq⟩
  obtain ⟨a, us, rfl, hds, hq⟩ := key
  refine ⟨a, us, rfl, hq, ?_⟩
  refine hr.run w σ H1 env m1 _ _ (sl.fr f1) u1 q1 fun vs ds m2 H2 f2 u2 h2 q2 => ?_
  exact c _ _ _ _ (f1.trans f2) u2 ((hds.fr f2).app h2) q2
end

/-! ### keywords -/
def wpK (X : Cx) (kws : List Keyword) : TA := fun σ H Q => ∀ (pos : Pos) (pins : List (Addr × Obj)) (s : Shared), Inv X pins σ H s → wpAny (model X.prog X.w) X.A (evalAll ((backToKw pos (keywordEach kws X.env)).map (·.2))) (AP X pins σ Q) X.xe s
theorem pk_self {X : Cx} {kws : List Keyword} : PK X kws (wpK X kws) := ⟨fun pos pins s σ H Q I h => h pos pins s I⟩
theorem wpK_of {X : Cx} {kws : List Keyword} {t : TA} (h : PK X kws t) {σ H Q} (q : t σ H Q) : wpK X kws σ H Q := fun pos pins s I => h.run pos pins s σ H Q I q
structure Dk (X : Cx) (kws : List Keyword) (t : DA) : Prop where
  run : ∀ w σ H env m Q' Q, Sls w H σ env → UI w m H → t env m Q' → Cts w H Q' Q → wpK X kws σ H Q
section
variable {X : Cx} {e : Expr} {es : List Expr} {kws : List Keyword} {te : DE} {pos p kpos : Pos} {t tk : DA} {nm : Option Str} {k : Nat} {f : Addr} {fd : FuncData} {ps ks : List Str} {sp : DSp} {x : Str}
theorem dk_nil : Dk X [] dNil := ⟨fun w σ H env m Q' Q hs hu h c => wpK_of pk_nil (c _ _ _ _ (Fr.refl _ _) hu .nil h)⟩
theorem dk_cons (ha : De X e te) (hr : Dk X kws t) : Dk X (⟨nm, e, kpos⟩ :: kws) (dCons te t) := by
  refine ⟨fun w σ H env m Q' Q sl hu h c => wpK_of (pk_cons pe_self pk_self) ?_⟩
  refine ha.run w σ H env m _ _ sl hu h fun v d m1 H1 f1 u1 h1 q1 => ?_
  refine hr.run w σ H1 env m1 _ _ (sl.fr f1) u1 q1 fun vs ds m2 H2 f2 u2 h2 q2 => ?_
  exact c _ _ _ _ (f1.trans f2) u2 (.cons (h1.fr f2) h2) q2
/-- f(k = v, ..): g puts the values in the parameters' order -/
theorem de_callK0 {g : List Value → List Value → List Value} {gV : List V → List V → List V} {gD : List D → List D} (F : FnOk X.prog X.w X.K X.mg X.base CX0 k f fd ps (spD sp)) (hr : Room k X.A) (hm : X.mg x = some (.ref f)) (hk : PySem.W.keepIn X.K (.ref f) = true) (hb : KBn X.K fd ps 0 ks g gV)
    (hgD : ∀ w H vs ds, vs.length = ks.length → Hds w H vs ds → Hds w H (gV [] vs) (gD ds)) (hkw : Dk X kws tk) (hg : Gl X x := by rfl)
    (hall : (backToKw pos (keywordEach kws X.env)).all (·.1.isSome) = true := by rfl) (hks : (backToKw pos (keywordEach kws X.env)).filterMap (·.1) = ks := by rfl) (hdb : (x == ("__debug__" : Str)) = false := by decide)
    (hpl : ((backTo pos (starEach [] X.env)).any (·.1) || (backToKw pos (keywordEach kws X.env)).any (·.1.isNone)) = false := by rfl) :
    De X (.Call (.Name x p) [] kws pos) (fun env m Q => tk env m fun ds m1 => ds.length = ks.length ∧ sp (gD ds) m1 Q) := by
  refine ⟨fun w σ H env m Q' Q sl hu h c pins s I => ?_⟩
  refine wpAny_Call_Name_kw (ld_glob I hg hm ?_ hdb)
  refine PySem.W.callWith_KW0 (h₀ := X.base) I.ok.mod.kin hk hall ?_ hpl
  refine thn (hkw.run w σ H env m _ (fun zs H1 => zs.length = ks.length ∧ spD sp (gV [] zs) H1 Q E0) sl hu h (fun vs ds m1 H1 f1 u1 h1 q1 => ?_) pos pins s I) fun ws s2 ⟨zs, H2, I2, rz, l2, q2⟩ => ⟨I2.kIn, ?_⟩
  · have hl : vs.length = ks.length := h1.len.trans q1.1
    exact ⟨hl, w, gD ds, m1, _, hgD w H1 vs ds hl h1, u1, q1.2, c.from f1⟩
  · rw [hks]
    exact run_fnN F hr hb pass0 I2 .nil rz rfl l2 q2
end

/-! ### targets -/
abbrev DG := D → Env → (Env → Prop) → Prop
def wpG (X : Cx) (tg : Expr) : TG := fun v σ H Q => ∀ pins s u, Inv X pins σ H s → RelV v u → wpAny (model X.prog X.w) X.A (assign tg X.env u) (fun _ s' => ∃ σ' H', Inv X pins σ' H' s' ∧ Q σ' H') X.xe s
theorem pg_self {X : Cx} {tg : Expr} : PG X tg (wpG X tg) := ⟨fun pins s σ H v u Q I r h => h pins s u I r⟩
/-- is: the slots that it stores -/
structure Dg (X : Cx) (tg : Expr) (is : List Nat) (t : DG) : Prop where
  run : ∀ w σ H env m v d Q' (Q : L2.St → Hp → Prop), Sls w H σ env → UI w m H → Hd w H v d → t d env Q' →
    (∀ σ' env', Sls w H σ' env' → (∀ vs : List Nat, (∀ i ∈ is, i ∈ vs) → L2.wipe σ' vs = L2.wipe σ vs) → Q' env' → Q σ' H) → wpG X tg v σ H Q
theorem wipe_get (σ : L2.St) : ∀ (vs : List Nat) (j : Nat), (L2.wipe σ vs)[j]? = if j ∈ vs ∧ j < σ.length then some none else σ[j]?
  | [], j => by simp [L2.wipe]
  | v :: vs, j => by
    unfold L2.wipe
    by_cases hv : v = j
    · subst hv
      by_cases hl : v < σ.length
      · rw [List.getElem?_set_self (by rw [wipe_length]; exact hl)]
        simp [hl]
      · rw [List.getElem?_eq_none (by rw [List.length_set, wipe_length]; omega)]
        simp [hl]
    · rw [List.getElem?_set_ne hv, wipe_get σ vs j]
      simp only [List.mem_cons]
      by_cases hm : j ∈ vs
      · simp [hm]
      · have : ¬ j = v := fun z => hv z.symm
        simp [hm, this]
theorem wipe_set {σ : L2.St} {i : Nat} {o : Option V} {vs : List Nat} (h : i ∈ vs) : L2.wipe (σ.set i o) vs = L2.wipe σ vs := by
  apply List.ext_getElem?
  intro j
  rw [wipe_get, wipe_get, List.length_set]
  by_cases hj : j ∈ vs ∧ j < σ.length
  · rw [if_pos hj, if_pos hj]
  · rw [if_neg hj, if_neg hj]
    by_cases hij : i = j
    · subst hij
      have : ¬ i < σ.length := fun z => hj ⟨h, z⟩
      rw [List.getElem?_eq_none (by simpa using this), List.getElem?_eq_none (by simpa using this)]
    · rw [List.getElem?_set_ne hij]
theorem wipe_idem {σ : L2.St} {vs : List Nat} : L2.wipe (L2.wipe σ vs) vs = L2.wipe σ vs := by
  apply List.ext_getElem?
  intro j
  rw [wipe_get, wipe_get, wipe_length]
  by_cases hj : j ∈ vs ∧ j < σ.length
  · rw [if_pos hj, if_pos hj]
  · rw [if_neg hj, if_neg hj]
section
variable {X : Cx} {pos : Pos}
def dgName (i : Nat) : DG := fun d env Q => Q (env.set i (some d))
theorem dg_name {i : Nat} {x : Str} (hN : X.N.Nodup) (hi : X.N[i]? = some x := by rfl) (hx : Loc X.env.scope x := by first | exact Or.inl rfl | exact Or.inr rfl) (hf : X.fn x = true ∨ X.env.scope.names.lookup x = some .local := by first | exact .inl rfl | exact .inr rfl | assumption) :
    Dg X (.Name x pos) [i] (dgName i) := by
  refine ⟨fun w σ H env m v d Q' Q sl hu hd h c pins s u I r => (pg_name hN hi hx hf).run pins s σ H v u Q I r ?_⟩
  exact c _ _ (sl.set i hd) (fun vs hvs => wipe_set (hvs i (by simp))) h
def dgTup2 (i j : Nat) : DG := fun d env Q => ∃ a b, d = .tup [a, b] ∧ Q ((env.set i (some a)).set j (some b))
theorem dg_tup2 {i j : Nat} {x y : Str} {px py : Pos} {k : Nat} (hc : X.calm = true) (hN : X.N.Nodup) (hi : X.N[i]? = some x := by rfl) (hj : X.N[j]? = some y := by rfl) (hx : Loc X.env.scope x := by first | exact Or.inl rfl | exact Or.inr rfl) (hy : Loc X.env.scope y := by first | exact Or.inl rfl | exact Or.inr rfl)
    (hf : X.fn x = true ∨ X.env.scope.names.lookup x = some .local := by first | exact .inl rfl | exact .inr rfl | assumption) (hf2 : X.fn y = true ∨ X.env.scope.names.lookup y = some .local := by first | exact .inl rfl | exact .inr rfl | assumption)
    (hs1 : (assignEach [.Name x px, .Name y py] X.env).map (·.2) = assign (.Name x px) X.env :: (assignEach [.Name y py] X.env).map (·.2) := by rfl) (hs2 : (assignEach [.Name y py] X.env).map (·.2) = assign (.Name y py) X.env :: (assignEach [] X.env).map (·.2) := by rfl)
    (hn : (assignEach [.Name x px, .Name y py] X.env).length = 2 := by rfl) (hst : (assignEach [.Name x px, .Name y py] X.env).findIdx? (·.1) = none := by rfl) :
    Dg X (.Tuple [.Name x px, .Name y py] k pos) [i, j] (dgTup2 i j) := by
  refine ⟨fun w σ H env m v d Q' Q sl hu hd h c pins s u I r => (pg_tup hc (pgs_cons (pg_name hN hi hx hf) (pgs_cons (pg_name hN hj hy hf2) pgs_nil hs2) hs1) hn hst).run pins s σ H v u Q I r ?_⟩
  obtain ⟨a, b, rfl, q⟩ := h
  rw [Hd.tup] at hd
  obtain ⟨p, vs, rfl, na, hp, hds⟩ := hd
  obtain ⟨v1, r1, rfl, h1, h2⟩ := hds.uncons
  obtain ⟨v2, r2, rfl, h3, h4⟩ := h2.uncons
  cases h4.unnil
  refine ⟨p, _, rfl, SqT.of hp, rfl, v1, _, rfl, v2, _, rfl, rfl, ?_⟩
  refine c _ _ ((sl.set i h1).set j h3) (fun vs hvs => ?_) q
  rw [wipe_set (hvs j (by simp)), wipe_set (hvs i (by simp))]
end

/-! ### what is walked -/
/-- a later world: what is new in it was not there at H0 -/
def Gr (w w2 : W) (H0 : Hp) : Prop := w2.u = w.u ∧ (∀ a ∈ w.ex, a ∈ w2.ex) ∧ (∀ a ∈ w2.ex, a ∈ w.ex ∨ H0 a = none) ∧ ∀ a ∈ w.ce, a ∈ w2.ce
theorem Gr.refl (w : W) (H : Hp) : Gr w w H := ⟨rfl, fun _ h => h, fun _ h => .inl h, fun _ h => h⟩
theorem Gr.av {w w2 : W} {H0 : Hp} (g : Gr w w2 H0) {a : Addr} {o : HO} (n : ¬ w.av a) (e : H0 a = some o) : ¬ w2.av a := fun z => by
  rcases z with z | z
  · exact n (.inl (g.1 ▸ z))
  · rcases g.2.2.1 a z with h | h
    · exact n (.inr h)
    · rw [e] at h; cases h
mutual
theorem Hd.grow {w w2 : W} {H : Hp} (g : Gr w w2 H) {v : V} : ∀ {d : D}, Hd w H v d → Hd w2 H v d
  | .non, h => by rw [Hd.non] at h ⊢; exact h
  | .bl b, h => by rw [Hd.bl] at h ⊢; exact h
  | .int i, h => by rw [Hd.int] at h ⊢; exact h
  | .str s, h => by rw [Hd.str] at h ⊢; exact h
  | .lst l, h => by
    rw [Hd.lst] at h ⊢
    obtain ⟨a, vs, e, n, ha, hs⟩ := h
    exact ⟨a, vs, e, g.av n ha, ha, Hds.grow g hs⟩
  | .tup l, h => by
    rw [Hd.tup] at h ⊢
    obtain ⟨a, vs, e, n, ha, hs⟩ := h
    exact ⟨a, vs, e, g.av n ha, ha, Hds.grow g hs⟩
  | .obj c l, h => by
    unfold Hd at h ⊢
    obtain ⟨a, dx, vs, e, n, n2, hd, ha, hs⟩ := h
    exact ⟨a, dx, vs, e, g.av n ha, g.av n2 hd, hd, ha, Hds.grow g hs⟩
  | .urn, h => by unfold Hd at h ⊢; rw [g.1]; exact h
  | .ext, h => by unfold Hd at h ⊢; exact h
  | .cell p l, h => by
    unfold Hd at h ⊢
    obtain ⟨e, m, n, vs, ha, hs⟩ := h
    exact ⟨e, g.2.2.2 _ m, by rw [g.1]; exact n, vs, ha, Hds.grow g hs⟩
theorem Hds.grow {w w2 : W} {H : Hp} (g : Gr w w2 H) {vs : List V} : ∀ {ds : List D}, Hds w H vs ds → Hds w2 H vs ds
  | [], h => by unfold Hds at h ⊢; exact h
  | d :: ds, h => by
    unfold Hds at h ⊢
    obtain ⟨x, xs, e, h1, h2⟩ := h
    exact ⟨x, xs, e, Hd.grow g h1, Hds.grow g h2⟩
end
mutual
/-- what holds in the later world holds in the earlier one -/
theorem Hd.shrink {w w2 : W} {H0 : Hp} (g : Gr w w2 H0) (gc : ∀ a ∈ w2.ce, a ∈ w.ce) {H : Hp} {v : V} : ∀ {d : D}, Hd w2 H v d → Hd w H v d
  | .non, h => by rw [Hd.non] at h ⊢; exact h
  | .bl b, h => by rw [Hd.bl] at h ⊢; exact h
  | .int i, h => by rw [Hd.int] at h ⊢; exact h
  | .str s, h => by rw [Hd.str] at h ⊢; exact h
  | .lst l, h => by
    rw [Hd.lst] at h ⊢
    obtain ⟨a, vs, e, n, ha, hs⟩ := h
    exact ⟨a, vs, e, fun z => n (z.elim (fun z => .inl (by rw [g.1]; exact z)) fun z => .inr (g.2.1 _ z)), ha, Hds.shrink g gc hs⟩
  | .tup l, h => by
    rw [Hd.tup] at h ⊢
    obtain ⟨a, vs, e, n, ha, hs⟩ := h
    exact ⟨a, vs, e, fun z => n (z.elim (fun z => .inl (by rw [g.1]; exact z)) fun z => .inr (g.2.1 _ z)), ha, Hds.shrink g gc hs⟩
  | .obj c l, h => by
    unfold Hd at h ⊢
    obtain ⟨a, dx, vs, e, n, n2, hd, ha, hs⟩ := h
    exact ⟨a, dx, vs, e, fun z => n (z.elim (fun z => .inl (by rw [g.1]; exact z)) fun z => .inr (g.2.1 _ z)), fun z => n2 (z.elim (fun z => .inl (by rw [g.1]; exact z)) fun z => .inr (g.2.1 _ z)), hd, ha, Hds.shrink g gc hs⟩
  | .urn, h => by unfold Hd at h ⊢; rw [g.1] at h; exact h
  | .ext, h => by unfold Hd at h ⊢; exact h
  | .cell p l, h => by
    unfold Hd at h ⊢
    obtain ⟨e, m, n, vs, ha, hs⟩ := h
    exact ⟨e, gc _ m, by rw [← g.1]; exact n, vs, ha, Hds.shrink g gc hs⟩
theorem Hds.shrink {w w2 : W} {H0 : Hp} (g : Gr w w2 H0) (gc : ∀ a ∈ w2.ce, a ∈ w.ce) {H : Hp} {vs : List V} : ∀ {ds : List D}, Hds w2 H vs ds → Hds w H vs ds
  | [], h => by unfold Hds at h ⊢; exact h
  | d :: ds, h => by
    unfold Hds at h ⊢
    obtain ⟨x, xs, e, h1, h2⟩ := h
    exact ⟨x, xs, e, Hd.shrink g gc h1, Hds.shrink g gc h2⟩
end
theorem Sls.grow {w w2 : W} {H : Hp} (g : Gr w w2 H) {σ : L2.St} {env : Env} (h : Sls w H σ env) : Sls w2 H σ env :=
  ⟨h.1, fun i d e => let ⟨v, e1, h1⟩ := h.2 i d e; ⟨v, e1, h1.grow g⟩⟩
theorem Sls.shrink {w w2 : W} {H0 H : Hp} (g : Gr w w2 H0) (gc : ∀ a ∈ w2.ce, a ∈ w.ce) {σ : L2.St} {env : Env} (h : Sls w2 H σ env) : Sls w H σ env :=
  ⟨h.1, fun i d e => let ⟨v, e1, h1⟩ := h.2 i d e; ⟨v, e1, h1.shrink g gc⟩⟩
/-- all that was there at H0 and may not change in the earlier world has not changed -/
theorem Fr.shrink {w w2 : W} {H0 H1 H : Hp} (g : Gr w w2 H0) (f : Fr w2 H1 H) : Fr w H1 H := fun b o n e => f b o (by rw [g.1]; exact n) e
theorem Fr.widen {w w2 : W} {H0 H1 H : Hp} (g : Gr w w2 H0) (f : Fr w H1 H) : Fr w2 H1 H := fun b o n e => f b o (by rw [← g.1]; exact n) e

/-- items ds come by J from the heap H0 on, in every later world -/
structure Walks (w : W) (H0 : Hp) (J : It) (ds : List D) : Prop where
  wk : ∃ (G : Hp → Prop) (Y : Nat → Hp → V → Hp → Prop), Walk J ds.length G Y ∧ ∀ w2, Gr w w2 H0 → ∀ H1, Keep w2 ds H0 H1 → G H1 ∧
    ∀ i x H2 m, i < ds.length → UI w2 m H1 → Y i H1 x H2 → Fr w2 H1 H2 ∧ UI w2 m H2 ∧ (∀ b, H2 b = none → H1 b = none) ∧ ∃ d, ds[i]? = some d ∧ Hd w2 H2 x d
abbrev DI := Env → Nat → (List D → Nat → Prop) → Prop
def wpI (X : Cx) (tg iter : Expr) : TI := fun σ H R => ∀ pins s, Inv X pins σ H s → wpAny (model X.prog X.w) X.A (eval iter X.env) (fun v s1 => wpAny (model X.prog X.w) X.A (pyIter v) (PIE X pins σ tg R) X.xe s1) X.xe s
theorem pi_self {X : Cx} {tg iter : Expr} : PI X tg iter (wpI X tg iter) := ⟨fun pins s σ H R I h => h pins s I⟩
theorem wpI_of {X : Cx} {tg iter : Expr} {t : TI} (h : PI X tg iter t) {σ H R} (q : t σ H R) : wpI X tg iter σ H R := fun pins s I => h.run pins s σ H R I q
structure Di (X : Cx) (tg iter : Expr) (t : DI) : Prop where
  run : ∀ w σ H env m Q' (R : It → Hp → Prop), Sls w H σ env → UI w m H → t env m Q' → (∀ J ds m' H', Fr w H H' → UI w m' H' → Walks w H' J ds → Q' ds m' → R J H') → wpI X tg iter σ H R
theorem walks_seq {w : W} {H0 : Hp} {K : PySem.W.Frag} {a : Addr} {vs : List V} {ds : List D} (na : ¬ w.av a) (ha : H0 a = some (.lst vs)) (h : Hds w H0 vs ds) : Walks w H0 (Itl K a) ds := by
  have wl := walk_list (K := K) (a := a) (xs := vs)
  rw [h.len] at wl
  refine ⟨⟨_, _, wl, fun w2 g H1 f => ⟨SqL.of (f.at (g.av na ha) ha), fun i x H2 m hi hu y => ?_⟩⟩⟩
  obtain ⟨rfl, e⟩ := y
  refine ⟨Fr.refl _ _, hu, fun _ z => z, ds[i], by simp [hi], ?_⟩
  obtain ⟨v, e2, hv⟩ := h.get (i := i) (d := ds[i]) (by simp [hi])
  rw [e] at e2
  cases e2
  exact f.hd (List.getElem_mem hi) (hv.grow g)
theorem walks_tup {w : W} {H0 : Hp} {K : PySem.W.Frag} {a : Addr} {vs : List V} {ds : List D} (na : ¬ w.av a) (ha : H0 a = some (.tup vs)) (h : Hds w H0 vs ds) : Walks w H0 (Itt K a) ds := by
  have wl := walk_tup (K := K) (a := a) (xs := vs)
  rw [h.len] at wl
  refine ⟨⟨_, _, wl, fun w2 g H1 f => ⟨SqT.of (f.at (g.av na ha) ha), fun i x H2 m hi hu y => ?_⟩⟩⟩
  obtain ⟨rfl, e⟩ := y
  refine ⟨Fr.refl _ _, hu, fun _ z => z, ds[i], by simp [hi], ?_⟩
  obtain ⟨v, e2, hv⟩ := h.get (i := i) (d := ds[i]) (by simp [hi])
  rw [e] at e2
  cases e2
  exact f.hd (List.getElem_mem hi) (hv.grow g)
/-- 0, 1, .. -/
def nats (n : Nat) : List D := (List.range n).map fun (i : Nat) => D.int (i : Int)
theorem nats_get {n i : Nat} (h : i < n) : (nats n)[i]? = some (.int (i : Int)) := by simp [nats, h]
theorem walks_range {w : W} {H0 : Hp} {n : Nat} : Walks w H0 (Itr 0 n) (nats n) := by
  have wl := walk_range (lo := 0) (n := n)
  have hl : (nats n).length = n := by simp [nats]
  refine ⟨⟨_, _, by rw [hl]; exact wl, fun w2 g H1 f => ⟨trivial, fun i x H2 m hi hu y => ?_⟩⟩⟩
  obtain ⟨rfl, e⟩ := y
  refine ⟨Fr.refl _ _, hu, fun _ z => z, _, nats_get (by rw [hl] at hi; exact hi), ?_⟩
  rw [e, Hd.int]
  show V.int (0 + (i : Int)) = V.int (i : Int)
  rw [Int.zero_add]
section
variable {X : Cx} {tg e e2 : Expr} {te : DE} {p pos : Pos}
theorem di_lst (h : De X e te) (hp : PI X tg e (iList X.K (wpE X e))) : Di X tg e (fun env m Q => te env m fun d m1 => ∃ l, d = .lst l ∧ Q l m1) := by
  refine ⟨fun w σ H env m Q' R sl hu hh c => wpI_of hp ?_⟩
  refine h.run w σ H env m _ _ sl hu hh fun v d m1 H1 f1 u1 h1 q1 => ?_
  obtain ⟨l, rfl, q⟩ := q1
  rw [Hd.lst] at h1
  obtain ⟨a, vs, rfl, na, ha, hds⟩ := h1
  exact ⟨a, rfl, ⟨_, SqL.of ha⟩, c _ _ _ _ f1 u1 (walks_seq na ha hds) q⟩
theorem di_tup (h : De X e te) (hp : PI X tg e (iTup X.K (wpE X e))) : Di X tg e (fun env m Q => te env m fun d m1 => ∃ l, d = .tup l ∧ Q l m1) := by
  refine ⟨fun w σ H env m Q' R sl hu hh c => wpI_of hp ?_⟩
  refine h.run w σ H env m _ _ sl hu hh fun v d m1 H1 f1 u1 h1 q1 => ?_
  obtain ⟨l, rfl, q⟩ := q1
  rw [Hd.tup] at h1
  obtain ⟨a, vs, rfl, na, ha, hds⟩ := h1
  exact ⟨a, rfl, ⟨_, SqT.of ha⟩, c _ _ _ _ f1 u1 (walks_tup na ha hds) q⟩
theorem di_range (hm : X.mg "range" = none) (h : De X e te) (hg : Gl X "range" := by rfl) (hs : starEach [e] X.env = [(false, eval e X.env)] := by rfl) (hs' : starEach [e] X.env = (false, eval e X.env) :: starEach [] X.env := by rfl) :
    Di X tg (.Call (.Name "range" p) [e] [] pos) (fun env m Q => te env m fun d m1 => ∃ n : Nat, d = .int (n : Int) ∧ n < 2 ^ 62 ∧ Q (nats n) m1) := by
  refine ⟨fun w σ H env m Q' R sl hu hh c => wpI_of (pi_range1 hg hm (pa_cons pe_self pa_nil hs') hs) ?_⟩
  refine h.run w σ H env m _ _ sl hu hh fun v d m1 H1 f1 u1 h1 q1 => ?_
  obtain ⟨n, rfl, hn, q⟩ := q1
  rw [Hd.int] at h1
  subst h1
  refine ⟨(n : Int), rfl, by omega, by omega, ?_⟩
  rw [Int.toNat_natCast]
  exact c _ _ _ _ f1 u1 walks_range q
end

/-! ### comprehensions -/
/-- a step's reading in a block: whatever the block's own frame -/
structure Blk (X : Cx) (scope : Scope) (Y : Cx) : Prop where
  ex : ∃ (s : Shared) (H : Hp) (C : Addr) (cl : List (Str × Addr)) (fp : List Addr), Y = X.blk s H scope (compEnvC scope cl C X.env) fp
def dYes : DT := fun _ m Q => Q true m
structure Dts (X : Cx) (ifs : List Expr) (t : DT) : Prop where
  run : ∀ w σ H env m Q' Q, Sls w H σ env → UI w m H → t env m Q' → Ctb w H Q' Q → ∀ pins s, Inv X pins σ H s → wpAny (model X.prog X.w) X.A (forIn ifs true fun c r => if r = true then do let ok ← isTrue c X.env (eval c X.env); pure (ForInStep.yield ok) else pure (ForInStep.yield r)) (TP X pins σ Q) X.xe s
theorem dts_nil {X : Cx} : Dts X [] dYes := ⟨fun w σ H env m Q' Q sl hu h c pins s I => pts_nil.run pins s σ H Q I (c _ _ _ (Fr.refl _ _) hu h)⟩
theorem dts_one {X : Cx} {c : Expr} {t : DT} (h : Dt X c t) : Dts X [c] t := ⟨fun w σ H env m Q' Q sl hu hh k pins s I => (pts_one pt_self).run pins s σ H Q I (h.run w σ H env m Q' Q sl hu hh k)⟩
/-- the comprehension by data: P says, ahead of the turn i, what is made so far -/
def lcIn (dg : DG) (dt : DT) (de : DE) (env : Env) (ds : List D) (m1 : Nat) (Q : List D → Nat → Prop) : Prop := ∃ P : Nat → List D → Nat → Prop, P 0 [] m1 ∧
  (∀ i d acc mm, ds[i]? = some d → P i acc mm → dg d env fun env2 => dt env2 mm fun b m2 => if b = true then de env2 m2 fun y m3 => P (i + 1) (acc ++ [y]) m3 else P (i + 1) acc m2) ∧
  ∀ acc mm, P ds.length acc mm → Q acc mm
def dLc (ti : DI) (dg : DG) (dt : DT) (de : DE) (vs : List Nat) : DE := fun env m Q => ti env m fun ds m1 => ds.length ≤ sizeLine ∧ lcIn dg dt de (wipeE env vs) ds m1 fun acc mm => Q (.lst acc) mm
/-- the heap as it stands ahead of a turn -/
structure LcI (w2 : W) (H1 : Hp) (D0 : Addr) (P : List D → Nat → Prop) (k : Nat) (H : Hp) : Prop where
  ex : ∃ acc mm vs, P acc mm ∧ H D0 = some (.lst vs) ∧ Hds w2 H vs acc ∧ acc.length ≤ k ∧ UI w2 mm H ∧ Fr w2 H1 H
theorem UI.put {w2 : W} {D0 : Addr} (hm : D0 ∈ w2.ex) (hn : w2.u ≠ some D0) {H : Hp} {o : HO} {mm : Nat} (hu : UI w2 mm H) : UI w2 mm (L2.upd H D0 o) := by
  refine ⟨fun b e => ?_, fun b hb => ?_⟩
  · have hbD : b ≠ D0 := fun z => hn (z ▸ e)
    obtain ⟨x, y, z, e', r⟩ := hu.1 b e
    exact ⟨x, y, z, by rw [upd_ne hbD]; exact e', r⟩
  · by_cases hbD : b = D0
    · exact ⟨_, by rw [hbD, upd_same]⟩
    · obtain ⟨o, e⟩ := hu.2 b hb
      exact ⟨o, by rw [upd_ne hbD]; exact e⟩
theorem UI.first {w : W} {D0 : Addr} {H : Hp} {o : HO} {mm : Nat} (hu : UI w mm H) (hD : H D0 = none) : UI ⟨w.u, D0 :: w.ex, w.ce, fun a h => List.mem_cons_of_mem _ (w.sub a h)⟩ mm (L2.upd H D0 o) := by
  refine ⟨fun b e => (hu.upd (o := o) hD).1 b e, fun b hb => ?_⟩
  rcases List.mem_cons.mp hb with rfl | hb
  · exact ⟨_, upd_same⟩
  · exact (hu.upd (o := o) hD).2 b hb
theorem UI.less {w w2 : W} {H0 H : Hp} {m : Nat} (g : Gr w w2 H0) (hu : UI w2 m H) : UI w m H := ⟨fun a e => hu.1 a (by rw [g.1]; exact e), fun a ha => hu.2 a (g.2.1 a ha)⟩
theorem gr_first {w : W} {D0 : Addr} {H1 : Hp} (hD : H1 D0 = none) : Gr w ⟨w.u, D0 :: w.ex, w.ce, fun a h => List.mem_cons_of_mem _ (w.sub a h)⟩ H1 := ⟨rfl, fun a ha => List.mem_cons_of_mem _ ha, fun a ha => by
    rcases List.mem_cons.mp ha with rfl | ha
    · exact .inr hD
    · exact .inl ha, fun a ha => ha⟩
/-- a block's parts, whatever its own frame -/
def gB (X : Cx) (scope : Scope) (tg : Expr) : TG := fun v σ H Q => ∀ (s : Shared) (H0 : Hp) (C : Addr) (cl : List (Str × Addr)) (fp : List Addr), wpG (X.blk s H0 scope (compEnvC scope cl C X.env) fp) tg v σ H Q
def ttB (X : Cx) (scope : Scope) (ifs : List Expr) : TT := fun σ H Q => ∀ (s0 : Shared) (H0 : Hp) (C : Addr) (cl : List (Str × Addr)) (fp : List Addr) pins s, Inv (X.blk s0 H0 scope (compEnvC scope cl C X.env) fp) pins σ H s → wpAny (model X.prog X.w) X.A (forIn ifs true fun c r => if r = true then do let ok ← isTrue c (compEnvC scope cl C X.env) (eval c (compEnvC scope cl C X.env)); pure (ForInStep.yield ok) else pure (ForInStep.yield r)) (TP (X.blk s0 H0 scope (compEnvC scope cl C X.env) fp) pins σ Q) (fun _ _ => False) s
def teB (X : Cx) (scope : Scope) (elt : Expr) : TE := fun σ H Q => ∀ (s : Shared) (H0 : Hp) (C : Addr) (cl : List (Str × Addr)) (fp : List Addr), wpE (X.blk s H0 scope (compEnvC scope cl C X.env) fp) elt σ H Q
theorem pg_gB {X : Cx} {scope : Scope} {tg : Expr} (s : Shared) (H : Hp) (C : Addr) (cl : List (Str × Addr)) (fp : List Addr) : PG (X.blk s H scope (compEnvC scope cl C X.env) fp) tg (gB X scope tg) := ⟨fun pins s1 σ H1 v u Q I r q => q s H C cl fp pins s1 u I r⟩
theorem pts_ttB {X : Cx} {scope : Scope} {ifs : List Expr} (s : Shared) (H : Hp) (C : Addr) (cl : List (Str × Addr)) (fp : List Addr) : PTs (X.blk s H scope (compEnvC scope cl C X.env) fp) ifs (ttB X scope ifs) := ⟨fun pins s1 σ H1 Q I q => q s H C cl fp pins s1 I⟩
theorem pe_teB {X : Cx} {scope : Scope} {elt : Expr} (s : Shared) (H : Hp) (C : Addr) (cl : List (Str × Addr)) (fp : List Addr) : PE (X.blk s H scope (compEnvC scope cl C X.env) fp) elt (teB X scope elt) := ⟨fun pins s1 σ H1 Q I q => q s H C cl fp pins s1 I⟩
theorem lc_run {X : Cx} {elt tg iter : Expr} {ifs : List Expr} {scope : Scope} {own : List (Str × Nat)} {is : List Nat} {ti : DI} {dg : DG} {dt : DT} {de : DE} (hi : Di X tg iter ti)
    (hg : ∀ (s : Shared) (H : Hp) (C : Addr) (cl : List (Str × Addr)) (fp : List Addr), Dg (X.blk s H scope (compEnvC scope cl C X.env) fp) tg is dg) (ht : ∀ (s : Shared) (H : Hp) (C : Addr) (cl : List (Str × Addr)) (fp : List Addr), Dts (X.blk s H scope (compEnvC scope cl C X.env) fp) ifs dt)
    (he : ∀ (s : Shared) (H : Hp) (C : Addr) (cl : List (Str × Addr)) (fp : List Addr), De (X.blk s H scope (compEnvC scope cl C X.env) fp) elt de) (his : ∀ i ∈ is, i ∈ own.map (·.2))
    {w : W} {σ : L2.St} {H : Hp} {env : Env} {m : Nat} {Q' : D → Nat → Prop} {Q : VK} (sl : Sls w H σ env) (hu : UI w m H) (h : dLc ti dg dt de (own.map (·.2)) env m Q') (c : Ct w H Q' Q) :
    tLc (wpI X tg iter) (gB X scope tg) (ttB X scope ifs) (teB X scope elt) (own.map (·.2)) σ H Q := by
  refine hi.run w σ H env m _ _ sl hu h fun J ds m1 H1 f1 u1 hw q1 D0 hD => ?_
  obtain ⟨hsz, P, p0, step, fin⟩ := q1
  obtain ⟨G, Y, wk, ww⟩ := hw.wk
  have gr : Gr w ⟨w.u, D0 :: w.ex, w.ce, fun a h => List.mem_cons_of_mem _ (w.sub a h)⟩ H1 := gr_first hD
  have nuD : w.u ≠ some D0 := fun z => by
    obtain ⟨x, y, z, e', _⟩ := u1.1 D0 z
    rw [hD] at e'; cases e'
  have u0 : UI ⟨w.u, D0 :: w.ex, w.ce, fun a h => List.mem_cons_of_mem _ (w.sub a h)⟩ m1 (upd H1 D0 (.lst [])) := u1.first hD
  generalize hw2 : (⟨w.u, D0 :: w.ex, w.ce, fun a h => List.mem_cons_of_mem _ (w.sub a h)⟩ : W) = w2 at gr u0
  have mD : D0 ∈ w2.ex := by rw [← hw2]; exact List.mem_cons_self ..
  have nuD2 : w2.u ≠ some D0 := by rw [← hw2]; exact nuD
  have aD : w2.av D0 := .inr mD
  have gc : ∀ a ∈ w2.ce, a ∈ w.ce := by rw [← hw2]; exact fun a h => h
  have ncD : D0 ∉ w2.ce := fun z => by
    obtain ⟨o, e⟩ := u1.2 D0 (w.sub _ (gc _ z))
    rw [hD] at e; cases e
  have sl2 : Sls w2 (upd H1 D0 (.lst [])) (L2.wipe σ (own.map (·.2))) (wipeE env (own.map (·.2))) := (((sl.fr f1).wipe _).grow gr).fr (Fr.upd hD)
  have fr0 : Fr w2 H1 (upd H1 D0 (.lst [])) := Fr.upd hD
  have slAt : ∀ {H2 : Hp}, Fr w2 H1 H2 → Sls w2 H2 (L2.wipe σ (own.map (·.2))) (wipeE env (own.map (·.2))) := fun {H2} f => (((sl.fr f1).wipe _).grow gr).fr f
  refine lc_it wk (fun i H => LcI w2 H1 D0 (P i) i H) ⟨⟨[], m1, [], p0, upd_same, .nil, Nat.le_refl _, u0, fr0⟩⟩ (fun i H2 hi2 ⟨⟨acc, mm, vs, hp, hd, hh, hl, hu2, hf⟩⟩ => (ww w2 gr H2 (.inl hf)).1) (fun i x H2 H3 hlt ⟨⟨acc, mm, vs, hp, hd, hh, hl, hu2, hf⟩⟩ y => ?_) fun H2 ⟨⟨acc, mm, vs, hp, hd, hh, hl, hu2, hf⟩⟩ => ?_
  · obtain ⟨fy, uy, free, d, ed, hx⟩ := (ww w2 gr H2 (.inl hf)).2 i x H3 mm hlt hu2 y
    intro s0 H0 C cl fp
    refine (hg s0 H0 C cl fp).run w2 (L2.wipe σ (own.map (·.2))) H3 (wipeE env (own.map (·.2))) mm x d _ _ (slAt (hf.trans fy)) uy hx (step i d acc mm ed hp) fun σ2 env2 sl3 hwp q2 => ?_
    refine ⟨(hwp _ his).trans wipe_idem, ?_⟩
    intro s0 H0 C cl fp pins s I
    refine (ht s0 H0 C cl fp).run w2 σ2 H3 env2 mm _ _ sl3 uy q2 (fun b m4 H4 f4 u4 q4 => ?_) pins s I
    have fr4 := hf.trans (fy.trans f4)
    have hd4 : H4 D0 = some (.lst vs) := f4 _ _ nuD2 (fy _ _ nuD2 hd)
    cases b with
    | false =>
      refine iteF ?_
      rw [if_neg Bool.false_ne_true] at q4
      exact ⟨⟨acc, m4, vs, q4, hd4, (hh.fr fy).fr f4, Nat.le_succ_of_le hl, u4, fr4⟩⟩
    | true =>
      refine iteT ?_
      rw [if_pos rfl] at q4
      intro s0 H0 C cl fp
      refine (he s0 H0 C cl fp).run w2 σ2 H4 env2 m4 _ _ (sl3.fr f4) u4 q4 fun v dv m5 H5 f5 u5 h5 q5 => ?_
      have hd5 : H5 D0 = some (.lst vs) := f5 _ _ nuD2 hd4
      have fr5 := fr4.trans f5
      refine ⟨vs, hd5, by rw [hh.len]; omega, ⟨⟨acc ++ [dv], m5, vs ++ [v], q5, upd_same, ((((hh.fr fy).fr f4).fr f5).app (.cons h5 .nil)).write aD ncD, by rw [List.length_append]; exact Nat.succ_le_succ hl, u5.put mD nuD2, fun b o nb e => ?_⟩⟩⟩
      rw [upd_ne (ne_of_none e hD)]
      exact fr5 b o nb e
  · have hfw : Fr w H1 H2 := hf.shrink gr
    refine c _ _ mm H2 (f1.trans hfw) (hu2.less gr) ?_ (fin acc mm hp)
    rw [Hd.lst]
    exact ⟨D0, vs, rfl, u1.new hD, hd, hh.shrink gr gc⟩
theorem de_lc {X : Cx} {elt tg iter : Expr} {ifs : List Expr} {scope : Scope} {own : List (Str × Nat)} {is : List Nat} {pos : Pos} {ti : DI} {dg : DG} {dt : DT} {de : DE} (hc : X.calm = true) (hN : X.N.Nodup) (hi : Di X tg iter ti) (ok : BlkOk X.N X.env.scope scope own)
    (hg : ∀ (s : Shared) (H : Hp) (C : Addr) (cl : List (Str × Addr)) (fp : List Addr), Dg (X.blk s H scope (compEnvC scope cl C X.env) fp) tg is dg) (ht : ∀ (s : Shared) (H : Hp) (C : Addr) (cl : List (Str × Addr)) (fp : List Addr), Dts (X.blk s H scope (compEnvC scope cl C X.env) fp) ifs dt)
    (he : ∀ (s : Shared) (H : Hp) (C : Addr) (cl : List (Str × Addr)) (fp : List Addr), De (X.blk s H scope (compEnvC scope cl C X.env) fp) elt de) (his : ∀ i ∈ is, i ∈ own.map (·.2) := by decide) (hs : ∀ x, foldedSetIterable iter X.env x = pure x := by intro _; rfl) :
    De X (.ListComp elt [⟨tg, iter, ifs, 0⟩] scope pos) (dLc ti dg dt de (own.map (·.2))) :=
  ⟨fun w σ H env m Q' Q sl hu h c => wp_of (pe_lc (own := own) hc hN pi_self ok pg_gB pts_ttB pe_teB hs) (lc_run hi hg ht he his sl hu h c)⟩
end TC
namespace TC
open PySem PySem.Spec PyProof.Rows L2
variable [Cl]

/-! ### and, or, not, if-else -/
section
variable {X : Cx} {a b e : Expr} {rest : List Expr} {ta tb : DE} {da db : DT} {pos : Pos}
structure Dw (X : Cx) (e : Expr) (t : DT) : Prop where
  run : ∀ w σ H env m Q' Q, Sls w H σ env → UI w m H → t env m Q' → Ctb w H Q' Q → ∀ whole pins s, Inv X pins σ H s → wpAny (model X.prog X.w) X.A (isTrue e X.env whole) (TP X pins σ Q) X.xe s
def wpW (X : Cx) (e : Expr) : TT := fun σ H Q => ∀ whole pins s, Inv X pins σ H s → wpAny (model X.prog X.w) X.A (isTrue e X.env whole) (TP X pins σ Q) X.xe s
theorem pw_self : PW X e (wpW X e) := ⟨fun wh pins s σ H Q I h => h wh pins s I⟩
theorem Dw.wp (h : Dw X e da) {w σ H env m Q' Q} (sl : Sls w H σ env) (hu : UI w m H) (q : da env m Q') (c : Ctb w H Q' Q) : wpW X e σ H Q := h.run w σ H env m Q' Q sl hu q c
theorem Ctb.from {w : W} {H H1 : Hp} {Q' : Bool → Nat → Prop} {Q : Bool → Hp → Prop} (c : Ctb w H Q' Q) (f : Fr w H H1) : Ctb w H1 Q' Q := fun b m' H' g => c b m' H' (f.trans g)
def dAnd (t u : DT) : DT := fun env m Q => t env m fun c m1 => if c = true then u env m1 Q else Q false m1
def dOr (t u : DT) : DT := fun env m Q => t env m fun c m1 => if c = true then Q true m1 else u env m1 Q
def dNot (t : DT) : DT := fun env m Q => t env m fun c m1 => Q (!c) m1
theorem dw_and1 (ha : Dt X a da) : Dw X (.BoolOp .And [a] pos) da := ⟨fun w σ H env m Q' Q sl hu h c wh pins s I => (pw_and1 pt_self).run wh pins s σ H Q I (ha.run w σ H env m Q' Q sl hu h c)⟩
theorem dw_or1 (ha : Dt X a da) : Dw X (.BoolOp .Or [a] pos) da := ⟨fun w σ H env m Q' Q sl hu h c wh pins s I => (pw_or1 pt_self).run wh pins s σ H Q I (ha.run w σ H env m Q' Q sl hu h c)⟩
theorem dw_and (ha : Dt X a da) (hb : Dw X (.BoolOp .And (b :: rest) pos) db) : Dw X (.BoolOp .And (a :: b :: rest) pos) (dAnd da db) := by
  refine ⟨fun w σ H env m Q' Q sl hu h c wh pins s I => (pw_and pt_self pw_self).run wh pins s σ H Q I ?_⟩
  refine ha.run w σ H env m _ _ sl hu h fun k m1 H1 f1 u1 q1 => ?_
  cases k with
  | true => exact iteT (hb.wp (sl.fr f1) u1 (by simpa using q1) (c.from f1))
  | false => exact iteF (c _ _ _ f1 u1 (by simpa using q1))
theorem dw_or (ha : Dt X a da) (hb : Dw X (.BoolOp .Or (b :: rest) pos) db) : Dw X (.BoolOp .Or (a :: b :: rest) pos) (dOr da db) := by
  refine ⟨fun w σ H env m Q' Q sl hu h c wh pins s I => (pw_or pt_self pw_self).run wh pins s σ H Q I ?_⟩
  refine ha.run w σ H env m _ _ sl hu h fun k m1 H1 f1 u1 q1 => ?_
  cases k with
  | false => exact iteF (hb.wp (sl.fr f1) u1 (by simpa using q1) (c.from f1))
  | true => exact iteT (c _ _ _ f1 u1 (by simpa using q1))
theorem Dw.pt (h : Dw X e da) : Dt X e da := ⟨fun w σ H env m Q' Q sl hu q c pins s I => h.run w σ H env m Q' Q sl hu q c _ pins s I⟩
theorem dt_not (ha : Dt X a da) : Dt X (.UnaryOp .Not a pos) (dNot da) := by
  refine ⟨fun w σ H env m Q' Q sl hu h c => wpT_of (pt_not pt_self) ?_⟩
  exact ha.run w σ H env m _ _ sl hu h fun k m1 H1 f1 u1 q1 => c _ _ _ f1 u1 q1
def dAndV (ta tb : DE) : DE := fun env m Q => ta env m fun x m1 => ∃ c, x = .bl c ∧ if c = true then tb env m1 Q else Q (.bl false) m1
def dOrV (ta tb : DE) : DE := fun env m Q => ta env m fun x m1 => ∃ c, x = .bl c ∧ if c = true then Q (.bl true) m1 else tb env m1 Q
def dNotV (ta : DE) : DE := fun env m Q => ta env m fun x m1 => ∃ c, x = .bl c ∧ Q (.bl (!c)) m1
theorem de_one {op} (h : De X a ta) : De X (.BoolOp op [a] pos) ta := ⟨fun w σ H env m Q' Q sl hu hh c => wp_of (pe_one pe_self) (h.run w σ H env m Q' Q sl hu hh c)⟩
theorem de_and (ha : De X a ta) (hb : De X (.BoolOp .And (b :: rest) pos) tb) : De X (.BoolOp .And (a :: b :: rest) pos) (dAndV ta tb) := by
  refine ⟨fun w σ H env m Q' Q sl hu h c => wp_of (pe_and pe_self pe_self) ?_⟩
  refine ha.run w σ H env m _ _ sl hu h fun v d m1 H1 f1 u1 h1 q1 => ?_
  obtain ⟨k, rfl, q⟩ := q1
  rw [Hd.bl] at h1; subst h1
  refine ⟨k, rfl, ?_⟩
  cases k with
  | true => exact iteT (hb.run w σ H1 env m1 _ _ (sl.fr f1) u1 (by simpa using q) (c.from f1))
  | false => exact iteF (c _ _ _ _ f1 u1 (Hd.bl.mpr rfl) (by simpa using q))
theorem de_or (ha : De X a ta) (hb : De X (.BoolOp .Or (b :: rest) pos) tb) : De X (.BoolOp .Or (a :: b :: rest) pos) (dOrV ta tb) := by
  refine ⟨fun w σ H env m Q' Q sl hu h c => wp_of (pe_or pe_self pe_self) ?_⟩
  refine ha.run w σ H env m _ _ sl hu h fun v d m1 H1 f1 u1 h1 q1 => ?_
  obtain ⟨k, rfl, q⟩ := q1
  rw [Hd.bl] at h1; subst h1
  refine ⟨k, rfl, ?_⟩
  cases k with
  | false => exact iteF (hb.run w σ H1 env m1 _ _ (sl.fr f1) u1 (by simpa using q) (c.from f1))
  | true => exact iteT (c _ _ _ _ f1 u1 (Hd.bl.mpr rfl) (by simpa using q))
theorem de_not (ha : De X a ta) : De X (.UnaryOp .Not a pos) (dNotV ta) := by
  refine ⟨fun w σ H env m Q' Q sl hu h c => wp_of (pe_not pe_self) ?_⟩
  refine ha.run w σ H env m _ _ sl hu h fun v d m1 H1 f1 u1 h1 q1 => ?_
  obtain ⟨k, rfl, q⟩ := q1
  rw [Hd.bl] at h1; subst h1
  exact ⟨k, rfl, c _ _ _ _ f1 u1 (Hd.bl.mpr rfl) q⟩
def dIf (t : DT) (ta tb : DE) : DE := fun env m Q => t env m fun c m1 => if c = true then ta env m1 Q else tb env m1 Q
theorem de_if {c : Expr} (hc : Dt X c da) (ha : De X a ta) (hb : De X b tb) : De X (.IfExp c a b pos) (dIf da ta tb) := by
  refine ⟨fun w σ H env m Q' Q sl hu h k => wp_of (pe_ifExp pt_self pe_self pe_self) ?_⟩
  refine hc.run w σ H env m _ _ sl hu h fun b m1 H1 f1 u1 q1 => ?_
  cases b with
  | true => exact iteT (ha.run w σ H1 env m1 _ _ (sl.fr f1) u1 (by simpa using q1) (k.from f1))
  | false => exact iteF (hb.run w σ H1 env m1 _ _ (sl.fr f1) u1 (by simpa using q1) (k.from f1))
/-- x is None, x is not None -/
theorem Hd.isNon {w : W} {H : Hp} {v : V} {d : D} (h : Hd w H v d) : decide (v = .non) = (match d with | .non => true | _ => false) := by
  cases d <;> (try (unfold Hd at h; subst h; rfl))
  · unfold Hd at h; obtain ⟨a, vs, rfl, _⟩ := h; rfl
  · unfold Hd at h; obtain ⟨a, vs, rfl, _⟩ := h; rfl
  · unfold Hd at h; obtain ⟨a, dx, vs, rfl, _⟩ := h; rfl
  · unfold Hd at h; obtain ⟨a, _, rfl⟩ := h; rfl
  · unfold Hd at h; obtain ⟨rfl, _⟩ := h; rfl
def dIsN (neg : Bool) (ta : DE) : DE := fun env m Q => ta env m fun d m1 => Q (.bl ((match d with | .non => true | _ => false) != neg)) m1
theorem de_isN {j pos'} (ha : De X a ta) : De X (.Compare a [.Is] [.Constant .none j pos'] pos) (dIsN false ta) := by
  refine ⟨fun w σ H env m Q' Q sl hu h c => wp_of (pe_cmp (pc_isN pe_self)) ?_⟩
  refine ha.run w σ H env m _ _ sl hu h fun v d m1 H1 f1 u1 h1 q1 => ?_
  rw [h1.isNon]
  exact c _ _ _ _ f1 u1 (by rw [Hd.bl]; cases d <;> rfl) q1
theorem de_notN {j pos'} (ha : De X a ta) : De X (.Compare a [.IsNot] [.Constant .none j pos'] pos) (dIsN true ta) := by
  refine ⟨fun w σ H env m Q' Q sl hu h c => wp_of (pe_cmp (pc_notN pe_self)) ?_⟩
  refine ha.run w σ H env m _ _ sl hu h fun v d m1 H1 f1 u1 h1 q1 => ?_
  rw [h1.isNon]
  exact c _ _ _ _ f1 u1 (by rw [Hd.bl]; cases d <;> rfl) q1
end

/-! ### more built-ins -/
section
variable {X : Cx}
theorem dc_max2 (hc : X.calm = true) : DCall X (.builtin "max") (fun ds m Q => ∃ i j, ds = [.int i, .int j] ∧ Q (.int (if j > i then j else i)) m) := by
  refine ⟨fun w H m vs ds Q' Q hu hs h c => ?_⟩
  obtain ⟨i, j, rfl, q⟩ := h
  obtain ⟨v, xs, rfl, h1, h2⟩ := hs.uncons
  obtain ⟨v2, xs, rfl, h3, h4⟩ := h2.uncons
  cases h4.unnil
  rw [Hd.int] at h1 h3; subst h1; subst h3
  exact wpC_of (call_max2 hc) ⟨_, _, rfl, c _ _ _ _ (Fr.refl _ _) hu (Hd.int.mpr rfl) q⟩
theorem dc_min2 (hc : X.calm = true) : DCall X (.builtin "min") (fun ds m Q => ∃ i j, ds = [.int i, .int j] ∧ Q (.int (if j < i then j else i)) m) := by
  refine ⟨fun w H m vs ds Q' Q hu hs h c => ?_⟩
  obtain ⟨i, j, rfl, q⟩ := h
  obtain ⟨v, xs, rfl, h1, h2⟩ := hs.uncons
  obtain ⟨v2, xs, rfl, h3, h4⟩ := h2.uncons
  cases h4.unnil
  rw [Hd.int] at h1 h3; subst h1; subst h3
  exact wpC_of (call_min2 hc) ⟨_, _, rfl, c _ _ _ _ (Fr.refl _ _) hu (Hd.int.mpr rfl) q⟩
theorem dc_lenS : DCall X (.builtin "len") (fun ds m Q => ∃ z, ds = [.str z] ∧ z.length ≤ sizeLine ∧ Q (.int (z.length : Nat)) m) := by
  refine ⟨fun w H m vs ds Q' Q hu hs h c => ?_⟩
  obtain ⟨z, rfl, hz, q⟩ := h
  obtain ⟨v, xs, rfl, h1, h2⟩ := hs.uncons
  cases h2.unnil
  rw [Hd.str] at h1; subst h1
  exact wpC_of call_len_str ⟨_, rfl, hz, c _ _ _ _ (Fr.refl _ _) hu (Hd.int.mpr rfl) q⟩
end

/-! ### statements -/
abbrev DS := (Env → Nat → Prop) → (D → Nat → Prop) → Env → Nat → Prop
def wpS (X : Cx) (st : Stmt) : TS := fun Dn σ H => ∀ pins s, Inv X pins σ H s → wpAny (model X.prog X.w) X.A (exec st X.env) (SP X pins Dn) X.xe s
def wpSs (X : Cx) (st : List Stmt) : TS := fun Dn σ H => ∀ pins s, Inv X pins σ H s → wpAny (model X.prog X.w) X.A (execs st X.env) (SP X pins Dn) X.xe s
theorem ps_self {X : Cx} {st : Stmt} : PS X st (wpS X st) := ⟨fun pins s σ H Dn I h => h pins s I⟩
theorem pss_self {X : Cx} {st : List Stmt} : PSs X st (wpSs X st) := ⟨fun pins s σ H Dn I h => h pins s I⟩
theorem wpS_of {X : Cx} {st : Stmt} {t : TS} (h : PS X st t) {Dn σ H} (q : t Dn σ H) : wpS X st Dn σ H := fun pins s I => h.run pins s σ H Dn I q
theorem wpSs_of {X : Cx} {st : List Stmt} {t : TS} (h : PSs X st t) {Dn σ H} (q : t Dn σ H) : wpSs X st Dn σ H := fun pins s I => h.run pins s σ H Dn I q
def Cn (w : W) (H : Hp) (nx : Env → Nat → Prop) (Q : L2.St → Hp → Prop) : Prop := ∀ σ' env' m' H', Fr w H H' → UI w m' H' → Sls w H' σ' env' → nx env' m' → Q σ' H'
theorem Cn.from {w : W} {H H1 : Hp} {nx : Env → Nat → Prop} {Q : L2.St → Hp → Prop} (c : Cn w H nx Q) (f : Fr w H H1) : Cn w H1 nx Q := fun σ' env' m' H' g => c σ' env' m' H' (f.trans g)
structure Ds (X : Cx) (st : Stmt) (t : DS) : Prop where
  run : ∀ w σ H env m nx rt (Dn : Ends), Sls w H σ env → UI w m H → t nx rt env m → Cn w H nx Dn.nx → Ct w H rt Dn.rt → wpS X st Dn σ H
structure Dss (X : Cx) (st : List Stmt) (t : DS) : Prop where
  run : ∀ w σ H env m nx rt (Dn : Ends), Sls w H σ env → UI w m H → t nx rt env m → Cn w H nx Dn.nx → Ct w H rt Dn.rt → wpSs X st Dn σ H
section
variable {X : Cx} {st : Stmt} {rest sts : List Stmt} {e : Expr} {te : DE} {t u : DS} {pos : Pos}
def dNext : DS := fun nx _ env m => nx env m
def dSeq (t u : DS) : DS := fun nx rt env m => t (fun env1 m1 => u nx rt env1 m1) rt env m
theorem dss_nil : Dss X [] dNext := ⟨fun w σ H env m nx rt Dn sl hu h c r => wpSs_of pss_nil (c _ _ _ _ (Fr.refl _ _) hu sl h)⟩
theorem dss_cons (h1 : Ds X st t) (h2 : Dss X rest u) : Dss X (st :: rest) (dSeq t u) := by
  refine ⟨fun w σ H env m nx rt Dn sl hu h c r => wpSs_of (pss_cons ps_self pss_self) ?_⟩
  exact h1.run w σ H env m _ rt { Dn with nx := wpSs X rest Dn } sl hu h (fun σ1 env1 m1 H1 f1 u1 s1 q1 => h2.run w σ1 H1 env1 m1 nx rt Dn s1 u1 q1 (c.from f1) (r.from f1)) r
theorem dss_one (h1 : Ds X st t) : Dss X [st] t := ⟨fun w σ H env m nx rt Dn sl hu h c r => wpSs_of (pss_one ps_self) (h1.run w σ H env m nx rt Dn sl hu h c r)⟩
def dRet (te : DE) : DS := fun _ rt env m => te env m rt
theorem ds_ret (he : De X e te) : Ds X (.Return (some e) pos) (dRet te) := ⟨fun w σ H env m nx rt Dn sl hu h c r => wpS_of (ps_ret pe_self) (he.run w σ H env m _ _ sl hu h r)⟩
def dRetN : DS := fun _ rt _ m => rt .non m
theorem ds_retN : Ds X (.Return none pos) dRetN := ⟨fun w σ H env m nx rt Dn sl hu h c r => wpS_of ps_retN (r _ _ _ _ (Fr.refl _ _) hu (Hd.non.mpr rfl) h)⟩
def dDrop (te : DE) : DS := fun nx _ env m => te env m fun _ m1 => nx env m1
theorem ds_expr (he : De X e te) (hs : swapsWith e none pos.line X.env = pure false := by rfl) : Ds X (.Expr e pos) (dDrop te) :=
  ⟨fun w σ H env m nx rt Dn sl hu h c r => wpS_of (ps_expr pe_self hs) (he.run w σ H env m _ _ sl hu h fun v d m1 H1 f1 u1 h1 q1 => c _ _ _ _ f1 u1 (sl.fr f1) q1)⟩
theorem ds_doc {x j pos'} : Ds X (.Expr (.Constant (.str x) j pos) pos') dNext := ⟨fun w σ H env m nx rt Dn sl hu h c r => wpS_of ps_doc (c _ _ _ _ (Fr.refl _ _) hu sl h)⟩
def dSet (i : Nat) (te : DE) : DS := fun nx _ env m => te env m fun d m1 => nx (env.set i (some d)) m1
theorem ds_set {i : Nat} {x : Str} {pos' : Pos} (hN : X.N.Nodup) (he : De X e te) (hi : X.N[i]? = some x := by rfl) (hx : Loc X.env.scope x := by first | exact Or.inl rfl | exact Or.inr rfl) (hs : swapsWith e (some (.Name x pos')) pos.line X.env = pure false := by rfl)
    (hf : X.fn x = true ∨ X.env.scope.names.lookup x = some .local := by first | exact .inl rfl | exact .inr rfl | assumption) : Ds X (.Assign [.Name x pos'] e pos) (dSet i te) :=
  ⟨fun w σ H env m nx rt Dn sl hu h c r => wpS_of (ps_set hN hi hx pe_self hs hf) (he.run w σ H env m _ _ sl hu h fun v d m1 H1 f1 u1 h1 q1 => c _ _ _ _ f1 u1 ((sl.fr f1).set i h1) q1)⟩
/-- name = [..], the name a local -/
theorem ds_setLc {elt tg iter : Expr} {ifs : List Expr} {scope : Scope} {own : List (Str × Nat)} {is : List Nat} {ti : DI} {dg : DG} {dt : DT} {de : DE} {i : Nat} {y : Str} {py lpos : Pos} (hc : X.calm = true) (hN : X.N.Nodup) (hi : Di X tg iter ti) (ok : BlkOk X.N X.env.scope scope own)
    (hg : ∀ (s : Shared) (H : Hp) (C : Addr) (cl : List (Str × Addr)) (fp : List Addr), Dg (X.blk s H scope (compEnvC scope cl C X.env) fp) tg is dg) (ht : ∀ (s : Shared) (H : Hp) (C : Addr) (cl : List (Str × Addr)) (fp : List Addr), Dts (X.blk s H scope (compEnvC scope cl C X.env) fp) ifs dt)
    (he : ∀ (s : Shared) (H : Hp) (C : Addr) (cl : List (Str × Addr)) (fp : List Addr), De (X.blk s H scope (compEnvC scope cl C X.env) fp) elt de) (hy : X.N[i]? = some y := by rfl) (hyl : X.env.scope.names.lookup y = some .local := by rfl)
    (hsw : swapsWith (.ListComp elt [⟨tg, iter, ifs, 0⟩] scope lpos) (some (.Name y py)) pos.line X.env = pure true := by exact sw_true rfl rfl rfl (by decide +kernel)) (his : ∀ i ∈ is, i ∈ own.map (·.2) := by decide) (hs : ∀ x, foldedSetIterable iter X.env x = pure x := by intro _; rfl) :
    Ds X (.Assign [.Name y py] (.ListComp elt [⟨tg, iter, ifs, 0⟩] scope lpos) pos) (dSet i (dLc ti dg dt de (own.map (·.2)))) :=
  ⟨fun w σ H env m nx rt Dn sl hu h c r => wpS_of (ps_setLc (own := own) (i := i) hc hN hy hyl hsw pi_self ok pg_gB pts_ttB pe_teB hs)
    (lc_run hi hg ht he his sl hu h fun v d m1 H1 f1 u1 h1 q1 => c _ _ _ _ f1 u1 ((sl.fr f1).set i h1) q1)⟩
/-- any target -/
theorem ds_asg {tg : Expr} {is : List Nat} {dg : DG} (he : De X e te) (hg : Dg X tg is dg) (hs : swapsWithSole [tg] e pos.line X.env = pure false := by rfl) (hw : swappedStores [tg] e X.env = pure none := by rfl)
    (h1 : (assignEach [tg] X.env).map (·.2) = [assign tg X.env] := by rfl) : Ds X (.Assign [tg] e pos) (fun nx _ env m => te env m fun d m1 => dg d env fun env1 => nx env1 m1) := by
  refine ⟨fun w σ H env m nx rt Dn sl hu h c r => wpS_of (ps_asg pe_self pg_self hs hw h1) ?_⟩
  refine he.run w σ H env m _ _ sl hu h fun v d m1 H1 f1 u1 h1 q1 => ?_
  exact hg.run w σ H1 env m1 v d _ _ (sl.fr f1) u1 h1 q1 fun σ2 env2 s2 _ q2 => c _ _ _ _ f1 u1 s2 q2
/-- a, b = x, y -/
def dPar (i j : Nat) (ta : DA) : DS := fun nx _ env m => ta env m fun ds m1 => ∃ a b, ds = [a, b] ∧ nx ((env.set i (some a)).set j (some b)) m1
theorem ds_par {i j : Nat} {x y : Str} {a b : Expr} {ta : DA} {px py pt : Pos} {kt k2 pt2} (hc : X.calm = true) (hN : X.N.Nodup) (ha : Da X [a, b] ta) (hi : X.N[i]? = some x := by rfl) (hj : X.N[j]? = some y := by rfl) (hij : i ≠ j := by decide)
    (hx : X.env.scope.names.lookup x = some .local := by rfl) (hy : X.env.scope.names.lookup y = some .local := by rfl)
    (hw : swappedStores [.Tuple [.Name x px, .Name y py] kt pt] (.Tuple [a, b] k2 pt2) X.env = pure (some [x, y]) := by rfl)
    (hs : swapsWithSole [.Tuple [.Name x px, .Name y py] kt pt] (.Tuple [a, b] k2 pt2) pos.line X.env = pure false := by rfl) :
    Ds X (.Assign [.Tuple [.Name x px, .Name y py] kt pt] (.Tuple [a, b] k2 pt2) pos) (dPar i j ta) := by
  refine ⟨fun w σ H env m nx rt Dn sl hu h c r => wpS_of (ps_par hc hN hi hj hij hx hy pa_self hw hs) ?_⟩
  refine ha.run w σ H env m _ _ sl hu h fun vs ds m1 H1 f1 u1 h1 q1 => ?_
  obtain ⟨a, b, rfl, q⟩ := q1
  obtain ⟨v1, r1, rfl, k1, k2⟩ := h1.uncons
  obtain ⟨v2, r2, rfl, k3, k4⟩ := k2.uncons
  cases k4.unnil
  exact ⟨v1, v2, rfl, c _ _ _ _ f1 u1 (((sl.fr f1).set i k1).set j k3) q⟩
def dIfS (c : DT) (t u : DS) : DS := fun nx rt env m => c env m fun b m1 => if b = true then t nx rt env m1 else u nx rt env m1
theorem ds_if {c : Expr} {tc : DT} {a b : List Stmt} (hc : Dt X c tc) (ha : Dss X a t) (hb : Dss X b u) : Ds X (.If c a b pos) (dIfS tc t u) := by
  refine ⟨fun w σ H env m nx rt Dn sl hu h k r => wpS_of (ps_if pt_self pss_self pss_self) ?_⟩
  refine hc.run w σ H env m _ _ sl hu h fun b m1 H1 f1 u1 q1 => ?_
  cases b with
  | true => exact iteT (ha.run w σ H1 env m1 nx rt Dn (sl.fr f1) u1 (by simpa using q1) (k.from f1) (r.from f1))
  | false => exact iteF (hb.run w σ H1 env m1 nx rt Dn (sl.fr f1) u1 (by simpa using q1) (k.from f1) (r.from f1))
def forIn1 (dg : DG) (db : DS) (nx : Env → Nat → Prop) (rt : D → Nat → Prop) (ds : List D) (env : Env) (m1 : Nat) : Prop := ∃ P : Nat → Env → Nat → Prop, P 0 env m1 ∧
  (∀ i d env mm, ds[i]? = some d → P i env mm → dg d env fun env2 => db (fun env3 m3 => P (i + 1) env3 m3) rt env2 mm) ∧ ∀ env mm, P ds.length env mm → nx env mm
def dFor (ti : DI) (dg : DG) (db : DS) : DS := fun nx rt env m => ti env m fun ds m1 => forIn1 dg db nx rt ds env m1
theorem ds_for {tg iter : Expr} {body : List Stmt} {is : List Nat} {ti : DI} {dg : DG} {db : DS} (hp : PassesOwn (model X.prog X.w) X.A X.env X.xe) (hc : X.calm = true) (hi : Di X tg iter ti) (hg : Dg X tg is dg) (hb : Dss X body db)
    (hs : ∀ x, foldedSetIterable iter X.env x = pure x := by intro _; rfl) : Ds X (.For tg iter body [] pos) (dFor ti dg db) := by
  refine ⟨fun w σ H env m nx rt Dn sl hu h c r => wpS_of (ps_for hp hc pi_self pg_self pss_self hs) ?_⟩
  refine hi.run w σ H env m _ _ sl hu h fun J ds m1 H1 f1 u1 hw q1 => ?_
  obtain ⟨P, p0, step, fin⟩ := q1
  obtain ⟨G, Y, wk, ww⟩ := hw.wk
  refine for_it wk (fun i σ2 H2 => ∃ env2 mm, P i env2 mm ∧ Sls w H2 σ2 env2 ∧ UI w mm H2 ∧ Fr w H1 H2) ⟨env, m1, p0, sl.fr f1, u1, Fr.refl _ _⟩ (fun i σ2 H2 hi2 ⟨env2, mm, hp2, s2, hu2, hf⟩ => (ww w (Gr.refl _ _) H2 (.inl hf)).1) (fun i x σ2 H2 H3 hlt ⟨env2, mm, hp2, s2, hu2, hf⟩ y => ?_) fun σ2 H2 ⟨env2, mm, hp2, s2, hu2, hf⟩ => ?_
  · obtain ⟨fy, uy, free, d, ed, hx⟩ := (ww w (Gr.refl _ _) H2 (.inl hf)).2 i x H3 mm hlt hu2 y
    refine hg.run w σ2 H3 env2 mm x d _ _ (s2.fr fy) uy hx (step i d env2 mm ed hp2) fun σ3 env3 s3 _ q3 => ?_
    refine hb.run w σ3 H3 env3 mm _ rt _ s3 uy q3 (fun σ4 env4 m4 H4 f4 u4 s4 q4 => ⟨env4, m4, q4, s4, u4, hf.trans (fy.trans f4)⟩) ?_
    exact r.from (f1.trans (hf.trans fy))
  · exact c _ _ _ _ (f1.trans hf) hu2 s2 (fin env2 mm hp2)
end

/-! ### a def by its body -/
section
variable {P : Program} {w : World} {K : PySem.W.Frag} {mg : Str → Option Value} {base : Heap}
abbrev envAt (N : List Str) (ds : List D) : Env := ds.map some ++ List.replicate (N.length - ds.length) none
theorem fnD {x qual : Str} {st : Stmt} {f : Addr} {fd : FuncData} {N ps : List Str} {k : Nat} {sp : DSp} (F : Fun K x qual st f fd) (S : FnScope N ps (defScope st)) (len : ∀ ds m Q, sp ds m Q → ds.length = ps.length)
    (hbody : ∀ (cdv : Value) (A : Around) (outer : List PySem.Env) (s : Shared) (H : Hp) (E : XK) (ds : List D) (m : Nat) (Q' : D → Nat → Prop), Room k (A.deeper (envOfC qual (defScope st) s.heap.objs.size f cdv)) → sp ds m Q' →
      ∃ t, Dss (cxOf CX0 P w K mg base N qual (defScope st) f cdv A outer s H E).nox (defBody st) t ∧ t (fun _ m => Q' .non m) Q' (envAt N ds) m) : FnOk P w K mg base CX0 (k + 1) f fd ps (spD sp) := by
  refine F.ok S (fun vs H Q E h => ?_) (fun cdv A outer s H vs Q E hr h => ?_)
  · obtain ⟨wd, ds, m, Q', hds, hu, hsp, _⟩ := h
    rw [hds.len]
    exact len _ _ _ hsp
  · obtain ⟨wd, ds, m, Q', hds, hu, hsp, c⟩ := h
    obtain ⟨t, ht, q⟩ := hbody cdv A outer s H E ds m Q' hr hsp
    refine ⟨_, pss_self, ht.run wd _ H _ m _ _ _ (Sls.start hds N) hu q (fun σ' env' m' H' f1 u1 s1 q1 => ?_) c⟩
    exact c _ _ _ _ f1 u1 (Hd.non.mpr rfl) q1
end
end TC
namespace TC
open PySem PySem.Spec PyProof.Rows L2
variable [Cl]

/-- a comprehension whose parts are plain functions of the item -/
theorem dLc_pure {ti : DI} {i : Nat} {dt : DT} {de : DE} {vs : List Nat} {env : Env} {m : Nat} {Q : D → Nat → Prop} (ds : List D) (f : D → Bool) (g : D → D) (hti : ∀ R : List D → Nat → Prop, R ds m → ti env m R) (hsz : ds.length ≤ sizeLine)
    (ht : ∀ d ∈ ds, ∀ mm (R : Bool → Nat → Prop), R (f d) mm → dt ((wipeE env vs).set i (some d)) mm R) (he : ∀ d ∈ ds, f d = true → ∀ mm (R : D → Nat → Prop), R (g d) mm → de ((wipeE env vs).set i (some d)) mm R)
    (q : Q (.lst ((ds.filter f).map g)) m) : dLc ti (dgName i) dt de vs env m Q := by
  refine hti _ ⟨hsz, fun k acc mm => mm = m ∧ acc = ((ds.take k).filter f).map g, ⟨rfl, rfl⟩, ?_, ?_⟩
  · rintro k d acc mm hd ⟨rfl, rfl⟩
    have hm : d ∈ ds := List.mem_of_getElem? hd
    have htk : ds.take (k + 1) = ds.take k ++ [d] := by
      obtain ⟨h1, h2⟩ := List.getElem?_eq_some_iff.mp hd
      rw [← List.take_append_getElem h1, h2]
    refine ht d hm mm _ ?_
    cases hf : f d with
    | false => 
      rw [if_neg Bool.false_ne_true]
      refine ⟨rfl, ?_⟩
      rw [htk]
      simp [hf]
    | true =>
      rw [if_pos rfl]
      refine he d hm hf mm _ ⟨rfl, ?_⟩
      rw [htk]
      simp [hf]
  · rintro acc mm ⟨rfl, rfl⟩
    rw [List.take_length]
    exact q

/-- a list or a tuple of these things -/
def Sq (a : D) (l : List D) : Prop := a = .tup l ∨ a = .lst l
def outD (row names : List D) : List D := row.filter fun d => !inV (fv d) (names.map fv)
theorem outD_le (row names : List D) : (outD row names).length ≤ row.length := List.length_filter_le _ _
theorem outD_flat {row names : List D} (h : row.all flatD = true) : (outD row names).all flatD = true := by
  rw [List.all_eq_true] at h ⊢
  exact fun d hd => h d (List.mem_filter.mp hd).1
end TC
namespace TC
open PySem PySem.Spec PyProof.Rows L2 RZ
variable [Cl]

/-! ### isinstance -/
def tyD : D → String
  | .non => "NoneType"
  | .bl _ => "bool"
  | .int _ => "int"
  | .str _ => "str"
  | .lst _ => "list"
  | .tup _ => "tuple"
  | .obj _ _ => "list"
  | .urn => "list"
  | .ext => "list"
  | .cell _ _ => "list"
def isD (d : D) (c : String) : Bool := match d with
  | .bl _ => c == "bool" || c == "int"
  | d => tyD d == c
def CK (c : String) : Prop := c = "list" ∨ c = "tuple" ∨ c = "bool" ∨ c = "str" ∨ c = "int"
theorem isD_kit {d : D} {c : String} (h : CK c) : kitB (tyD d) c = some (isD d c) := by
  rcases h with rfl | rfl | rfl | rfl | rfl <;> cases d <;> simp only [tyD, isD] <;> decide +kernel
def noUrn : D → Bool
  | .urn => false
  | .ext => false
  | .cell _ _ => false
  | .obj _ _ => false
  | _ => true
theorem Hd.ty {w : W} {K : PySem.W.Frag} {H : Hp} {v : V} {d : D} (h : Hd w H v d) (n : noUrn d = true) : TyX K H v (.type (tyD d)) := by
  cases d with
  | non => rw [Hd.non] at h; subst h; exact .base .non
  | bl b => rw [Hd.bl] at h; subst h; exact .base (.bl _)
  | int b => rw [Hd.int] at h; subst h; exact .base (.int _)
  | str b => rw [Hd.str] at h; subst h; exact .base (.str _)
  | lst l => rw [Hd.lst] at h; obtain ⟨a, vs, rfl, _, e, _⟩ := h; exact .base (.lst e)
  | tup l => rw [Hd.tup] at h; obtain ⟨a, vs, rfl, _, e, _⟩ := h; exact .base (.tup e)
  | obj c l => cases n
  | urn => cases n
  | ext => cases n
  | cell p l => cases n
section
variable {X : Cx} {e : Expr} {te : DE} {x A B : Str} {p p1 p2 pos pos2 : Pos} {k : Nat} {a b : String}
theorem de_isi (hm : X.mg "isinstance" = none) (ha : De X e te) (hA : X.mg A = none) (hbA : bootBuiltins A = some (.type a) := by decide +kernel) (hc : CK a := by first | exact .inl rfl | exact .inr (.inl rfl) | exact .inr (.inr (.inl rfl)) | exact .inr (.inr (.inr (.inl rfl))) | exact .inr (.inr (.inr (.inr rfl))))
    (hgA : Gl X A := by rfl) (hg : Gl X "isinstance" := by rfl) (hnA : A ≠ "__name__" := by decide) (hdA : (A == ("__debug__" : Str)) = false := by decide)
    (hs1 : starEach [e, .Name A p1] X.env = (false, eval e X.env) :: starEach [.Name A p1] X.env := by rfl) (hs2 : starEach [.Name A p1] X.env = (false, eval (.Name A p1) X.env) :: starEach [] X.env := by rfl)
    (hpl : (backTo pos (starEach [.Name A p1] X.env)).any (·.1) = false := by rfl) :
    De X (.Call (.Name "isinstance" p) [e, .Name A p1] [] pos) (fun env m Q => te env m fun d m1 => noUrn d = true ∧ Q (.bl (isD d a)) m1) := by
  refine ⟨fun w σ H env m Q' Q sl hu h c => wp_of (pe_callB call_isi hg hm (by decide +kernel) (pa_cons pe_self (pa_cons (pe_bltn (v := .ty a) hgA hA hbA rfl hnA hdA) pa_nil hs2) hs1) (by decide) (by decide) hs1 hpl) ?_⟩
  refine ha.run w σ H env m _ _ sl hu h fun v d m1 H1 f1 u1 h1 q1 => ?_
  exact ⟨v, .ty a, _, _, _, rfl, .ty a, h1.ty q1.1, kit_ty (isD_kit hc), c _ _ _ _ f1 u1 (Hd.bl.mpr rfl) q1.2⟩
theorem de_isi2 (hm : X.mg "isinstance" = none) (ha : De X e te) (hA : X.mg A = none) (hB : X.mg B = none) (hbA : bootBuiltins A = some (.type a) := by decide +kernel) (hbB : bootBuiltins B = some (.type b) := by decide +kernel) (hc : CK a := by first | exact .inl rfl | exact .inr (.inl rfl) | exact .inr (.inr (.inl rfl)) | exact .inr (.inr (.inr (.inl rfl))) | exact .inr (.inr (.inr (.inr rfl))))
    (hc2 : CK b := by first | exact .inl rfl | exact .inr (.inl rfl) | exact .inr (.inr (.inl rfl)) | exact .inr (.inr (.inr (.inl rfl))) | exact .inr (.inr (.inr (.inr rfl))))
    (hgA : Gl X A := by rfl) (hgB : Gl X B := by rfl) (hg : Gl X "isinstance" := by rfl) (hnA : A ≠ "__name__" := by decide) (hdA : (A == ("__debug__" : Str)) = false := by decide) (hnB : B ≠ "__name__" := by decide) (hdB : (B == ("__debug__" : Str)) = false := by decide)
    (hs1 : starEach [e, .Tuple [.Name A p1, .Name B p2] k pos2] X.env = (false, eval e X.env) :: starEach [.Tuple [.Name A p1, .Name B p2] k pos2] X.env := by rfl) (hs2 : starEach [.Tuple [.Name A p1, .Name B p2] k pos2] X.env = (false, eval (.Tuple [.Name A p1, .Name B p2] k pos2) X.env) :: starEach [] X.env := by rfl)
    (hs3 : starEach [.Name A p1, .Name B p2] X.env = (false, eval (.Name A p1) X.env) :: starEach [.Name B p2] X.env := by rfl) (hs4 : starEach [.Name B p2] X.env = (false, eval (.Name B p2) X.env) :: starEach [] X.env := by rfl)
    (hpl : (backTo pos (starEach [.Tuple [.Name A p1, .Name B p2] k pos2] X.env)).any (·.1) = false := by rfl) :
    De X (.Call (.Name "isinstance" p) [e, .Tuple [.Name A p1, .Name B p2] k pos2] [] pos) (fun env m Q => te env m fun d m1 => noUrn d = true ∧ Q (.bl (isD d a || isD d b)) m1) := by
  refine ⟨fun w σ H env m Q' Q sl hu h c => wp_of (pe_callB call_isiT hg hm (by decide +kernel) (pa_cons pe_self (pa_cons (pe_tup (pa_cons (pe_bltn (v := .ty a) hgA hA hbA rfl hnA hdA) (pa_cons (pe_bltn (v := .ty b) hgB hB hbB rfl hnB hdB) pa_nil hs4) hs3)) pa_nil hs2) hs1) (by decide) (by decide) hs1 hpl) ?_⟩
  refine ha.run w σ H env m _ _ sl hu h fun v d m1 H1 f1 u1 h1 q1 => ?_
  refine ⟨(by show 2 ≤ sizeLine; decide), fun tp htp => ?_⟩
  refine ⟨v, tp, _, _, [.type a, .type b], (isD d a || isD d b), rfl, upd_same, .cons (.ty a) (.cons (.ty b) .nil), (h1.fr (Fr.upd htp)).ty q1.1, ?_, c _ _ _ _ (f1.trans (Fr.upd htp)) (u1.upd htp) (Hd.bl.mpr rfl) q1.2⟩
  refine kitAny_cons (kit_ty (isD_kit hc)) (fun e => ?_) (fun e => by rw [e]; rfl)
  refine kitAny_cons (kit_ty (isD_kit hc2)) (fun e2 => ?_) (fun e2 => by rw [e2, Bool.or_true])
  rw [e, e2]; exact kitAny_nil
end

/-! ### zip -/
def pairsD (as bs : List D) : List D := (as.zip bs).map fun p => .tup [p.1, p.2]
theorem zip_get {as bs : List D} {i : Nat} (h1 : i < as.length) (h2 : i < bs.length) : (as.zip bs)[i]? = some (as[i], bs[i]) := by
  rw [List.getElem?_eq_getElem (by rw [List.length_zip]; omega), List.getElem_zip]
theorem keep_zip {w : W} {ds es : List D} {H0 H1 : Hp} (k : Keep w (pairsD ds es) H0 H1) {i : Nat} (h1 : i < ds.length) (h2 : i < es.length) : (∀ {v : V}, Hd w H0 v ds[i] → Hd w H1 v ds[i]) ∧ ∀ {v : V}, Hd w H0 v es[i] → Hd w H1 v es[i] := by
  rcases k with f | ⟨c, f⟩
  · exact ⟨fun h => h.fr f, fun h => h.fr f⟩
  · have m : D.tup [ds[i], es[i]] ∈ pairsD ds es := by
      refine List.mem_of_getElem? (i := i) ?_
      simp only [pairsD, List.getElem?_map, zip_get h1 h2]
      rfl
    have n := nocL_of c _ m
    rw [noc, nocL, nocL, Bool.and_eq_true, Bool.and_eq_true] at n
    exact ⟨fun h => h.frx f n.1, fun h => h.frx f n.2.1⟩
theorem walks_zipL {w : W} {H0 : Hp} {K : PySem.W.Frag} {a b : Addr} {vs us : List V} {ds es : List D} (na : ¬ w.av a) (nb : ¬ w.av b) (ha : H0 a = some (.lst vs)) (hb : H0 b = some (.lst us)) (h : Hds w H0 vs ds) (g : Hds w H0 us es) (hl : ds.length = es.length) : Walks w H0 (Itz K a b) (pairsD ds es) := by
  have e1 := h.len
  have e2 := g.len
  have hn : (pairsD ds es).length = min vs.length us.length := by simp [pairsD, e1, e2]
  have wl := walk_zip (K := K) (a := a) (b := b) (xs := vs) (ys := us) hn
  refine ⟨⟨_, _, wl, fun w2 gr H1 f => ⟨⟨SqL.of (f.at (gr.av na ha) ha), SqL.of (f.at (gr.av nb hb) hb)⟩, fun i x H2 m hi hu y => ?_⟩⟩⟩
  obtain ⟨T, x1, y1, rfl, hT, rfl, k1, k2⟩ := y
  have hi1 : i < ds.length := by simp [pairsD] at hi; omega
  have hi2 : i < es.length := by omega
  obtain ⟨v1, e3, hv1⟩ := h.get (i := i) (d := ds[i]) (by simp [hi1])
  obtain ⟨v2, e4, hv2⟩ := g.get (i := i) (d := es[i]) (by simp [hi2])
  have e3' : some x1 = some v1 := k1.symm.trans e3
  have e4' : some y1 = some v2 := k2.symm.trans e4
  cases e3'; cases e4'
  refine ⟨Fr.upd hT, hu.upd hT, fun c hc => ?_, .tup [ds[i], es[i]], by simp only [pairsD, List.getElem?_map, zip_get hi1 hi2]; rfl, ?_⟩
  · by_cases hcT : c = T
    · rw [hcT]; exact hT
    · rw [upd_ne hcT] at hc; exact hc
  · exact new_tup hu (.cons ((keep_zip f hi1 hi2).1 (hv1.grow gr)) (.cons ((keep_zip f hi1 hi2).2 (hv2.grow gr)) .nil)) hT
theorem walk_zipT {K : PySem.W.Frag} {a b : Addr} {xs ys : List V} {n : Nat} (hn : n = min xs.length ys.length) : Walk (ItzT K a b) n (fun H => SqT K H a xs ∧ SqT K H b ys) (YPair (fun i => xs[i]?) (fun i => ys[i]?)) := by
  subst hn
  refine ⟨fun i _ hi q => ?_, fun _ q => ⟨xs, ys, q.1, q.2, by omega⟩, fun i H v H' _ q y => ?_⟩
  · have h1 : i < xs.length := by omega
    have h2 : i < ys.length := by omega
    exact ⟨xs, ys, xs[i], ys[i], q.1, q.2, by simp [h1], by simp [h2]⟩
  · obtain ⟨T, x, z, h1, h2, h3, h4, h5⟩ := y
    exact ⟨T, x, z, h1, h2, h3, h4 xs q.1, h5 ys q.2⟩
theorem walks_zipT {w : W} {H0 : Hp} {K : PySem.W.Frag} {a b : Addr} {vs us : List V} {ds es : List D} (na : ¬ w.av a) (nb : ¬ w.av b) (ha : H0 a = some (.tup vs)) (hb : H0 b = some (.tup us)) (h : Hds w H0 vs ds) (g : Hds w H0 us es) (hl : ds.length = es.length) : Walks w H0 (ItzT K a b) (pairsD ds es) := by
  have e1 := h.len
  have e2 := g.len
  have hn : (pairsD ds es).length = min vs.length us.length := by simp [pairsD, e1, e2]
  have wl := walk_zipT (K := K) (a := a) (b := b) (xs := vs) (ys := us) hn
  refine ⟨⟨_, _, wl, fun w2 gr H1 f => ⟨⟨SqT.of (f.at (gr.av na ha) ha), SqT.of (f.at (gr.av nb hb) hb)⟩, fun i x H2 m hi hu y => ?_⟩⟩⟩
  obtain ⟨T, x1, y1, rfl, hT, rfl, k1, k2⟩ := y
  have hi1 : i < ds.length := by simp [pairsD] at hi; omega
  have hi2 : i < es.length := by omega
  obtain ⟨v1, e3, hv1⟩ := h.get (i := i) (d := ds[i]) (by simp [hi1])
  obtain ⟨v2, e4, hv2⟩ := g.get (i := i) (d := es[i]) (by simp [hi2])
  have e3' : some x1 = some v1 := k1.symm.trans e3
  have e4' : some y1 = some v2 := k2.symm.trans e4
  cases e3'; cases e4'
  refine ⟨Fr.upd hT, hu.upd hT, fun c hc => ?_, .tup [ds[i], es[i]], by simp only [pairsD, List.getElem?_map, zip_get hi1 hi2]; rfl, ?_⟩
  · by_cases hcT : c = T
    · rw [hcT]; exact hT
    · rw [upd_ne hcT] at hc; exact hc
  · exact new_tup hu (.cons ((keep_zip f hi1 hi2).1 (hv1.grow gr)) (.cons ((keep_zip f hi1 hi2).2 (hv2.grow gr)) .nil)) hT
theorem di_zip {X : Cx} {e e2 : Expr} {ta tb : DE} {p pos tpos : Pos} {elts : List Expr} {kk : Nat} (hm : X.mg "zip" = none) (h1 : De X e ta) (h2 : De X e2 tb) (hg : Gl X "zip" := by rfl) (hs : starEach [e, e2] X.env = (false, eval e X.env) :: starEach [e2] X.env := by rfl)
    (hs2 : starEach [e2] X.env = (false, eval e2 X.env) :: starEach [] X.env := by rfl) (hpl : (backTo pos (starEach [e2] X.env)).any (·.1) = false := by rfl) :
    Di X (.Tuple elts kk tpos) (.Call (.Name "zip" p) [e, e2] [] pos) (fun env m Q => ta env m fun x m1 => tb env m1 fun y m2 => ∃ as bs, as.length = bs.length ∧ ((x = .lst as ∧ y = .lst bs) ∨ (x = .tup as ∧ y = .tup bs)) ∧ Q (pairsD as bs) m2) := by
  refine ⟨fun w σ H env m Q' R sl hu hh c => wpI_of (pi_zipA hg hm (pa_cons pe_self (pa_cons pe_self pa_nil hs2) hs) hs hpl) ?_⟩
  refine h1.run w σ H env m _ _ sl hu hh fun v d m1 H1 f1 u1 k1 q1 => ?_
  refine h2.run w σ H1 env m1 _ _ (sl.fr f1) u1 q1 fun v2 d2 m2 H2 f2 u2 k2 q2 => ?_
  have k1 := k1.fr f2
  obtain ⟨as, bs, hl, hk, q⟩ := q2
  rcases hk with ⟨rfl, rfl⟩ | ⟨rfl, rfl⟩
  · rw [Hd.lst] at k1 k2
    obtain ⟨a, vs, rfl, na, ha, hs1⟩ := k1
    obtain ⟨b, us, rfl, nb, hb, hs2⟩ := k2
    exact ⟨a, b, vs, us, rfl, .inl ⟨SqL.of ha, SqL.of hb, c _ _ _ _ (f1.trans f2) u2 (walks_zipL na nb ha hb hs1 hs2 hl) q⟩⟩
  · rw [Hd.tup] at k1 k2
    obtain ⟨a, vs, rfl, na, ha, hs1⟩ := k1
    obtain ⟨b, us, rfl, nb, hb, hs2⟩ := k2
    exact ⟨a, b, vs, us, rfl, .inr ⟨SqT.of ha, SqT.of hb, c _ _ _ _ (f1.trans f2) u2 (walks_zipT na nb ha hb hs1 hs2 hl) q⟩⟩
/-! ### places -/
theorem atI_in {l : List D} {v : Int} (h0 : 0 ≤ v) (h1 : v < (l.length : Nat)) : ∃ d, atI l v = some d ∧ d ∈ l ∧ l[v.toNat]? = some d := by
  have hk : v.toNat < l.length := by omega
  refine ⟨l[v.toNat], ?_, List.getElem_mem .., by simp [hk]⟩
  unfold atI ixN
  rw [if_pos h0, if_pos h1]
  simp [hk]
end TC
namespace TC
open PySem PySem.Spec PyProof.Rows L2
variable [Cl]
def dNever : DS := fun _ _ _ _ => False
theorem dss_never {X : Cx} {sts : List Stmt} : Dss X sts dNever := ⟨fun _ _ _ _ _ _ _ _ _ _ h => h.elim⟩
theorem ds_never {X : Cx} {st : Stmt} : Ds X st dNever := ⟨fun _ _ _ _ _ _ _ _ _ _ h => h.elim⟩
end TC
namespace TC
open PySem PySem.Spec PyProof.Rows L2
variable [Cl]
section
variable {X : Cx} {a : Expr} {ta : DE} {pos : Pos}
theorem dt_isN {j pos'} (ha : De X a ta) : Dt X (.Compare a [.Is] [.Constant .none j pos'] pos) (dB (dIsN false ta)) := by
  refine ⟨fun w σ H env m Q' Q sl hu h c => wpT_of (pt_cmp (pc_isN pe_self)) ?_⟩
  refine ha.run w σ H env m _ _ sl hu h fun v d m1 H1 f1 u1 h1 q1 => ?_
  rw [h1.isNon]
  obtain ⟨b, e, q⟩ := q1
  refine ⟨_, rfl, c _ _ _ f1 u1 ?_⟩
  injection e with e
  subst e
  cases d <;> exact q
theorem dt_notN {j pos'} (ha : De X a ta) : Dt X (.Compare a [.IsNot] [.Constant .none j pos'] pos) (dB (dIsN true ta)) := by
  refine ⟨fun w σ H env m Q' Q sl hu h c => wpT_of (pt_cmp (pc_notN pe_self)) ?_⟩
  refine ha.run w σ H env m _ _ sl hu h fun v d m1 H1 f1 u1 h1 q1 => ?_
  rw [h1.isNon]
  obtain ⟨b, e, q⟩ := q1
  refine ⟨_, rfl, c _ _ _ f1 u1 ?_⟩
  injection e with e
  subst e
  cases d <;> exact q
end
end TC
namespace TC
open PySem PySem.Spec PyProof.Rows L2
variable [Cl]
section
variable {X : Cx} {k : Nat} {f : Addr} {fd : FuncData} {ps : List Str} {sp : DSp} {x : Str} {p pos : Pos}
theorem de_call0 (F : FnOk X.prog X.w X.K X.mg X.base CX0 k f fd ps (spD sp)) (hr : Room k X.A) (hm : X.mg x = some (.ref f)) (hk : PySem.W.keepIn X.K (.ref f) = true) (hb : Binds X.K fd ps []) (hg : Gl X x := by rfl)
    (hdb : (x == ("__debug__" : Str)) = false := by decide) : De X (.Call (.Name x p) [] [] pos) (fun env m Q => sp [] m Q) := by
  refine ⟨fun w σ H env m Q' Q sl hu h c => wp_of (pe_call0 F hr hg hm hk hb .nil pass0 hdb) ?_⟩
  exact ⟨w, [], m, _, .nil, hu, h, c⟩
/-- what len gives -/
def lenD (K : PySem.W.Frag) (ds : List D) (m : Nat) (Q : D → Nat → Prop) : Prop := match ds with
  | [.lst l] => Q (.int (l.length : Nat)) m
  | [.tup l] => Q (.int (l.length : Nat)) m
  | [.str z] => z.length ≤ sizeLine ∧ Q (.int (z.length : Nat)) m
  | [.ext] => Ez K ∧ Q (.int 0) m
  | _ => False
theorem dc_lenA : DCall X (.builtin "len") (lenD X.K) := by
  refine ⟨fun w H m vs ds Q' Q hu hs h c => ?_⟩
  unfold lenD at h
  split at h
  · exact dc_len.run w H m vs _ Q' Q hu hs ⟨_, .inl rfl, h⟩ c
  · exact dc_len.run w H m vs _ Q' Q hu hs ⟨_, .inr rfl, h⟩ c
  · exact dc_lenS.run w H m vs _ Q' Q hu hs ⟨_, rfl, h⟩ c
  · obtain ⟨h0, q⟩ := h
    obtain ⟨v, xs, rfl, h1, h2⟩ := hs.uncons
    cases h2.unnil
    unfold Hd at h1
    exact wpC_of call_len_seq ⟨_, [], by rw [h1], .inr h0.sq, c _ _ _ _ (Fr.refl _ _) hu (Hd.int.mpr rfl) q⟩
  · exact h.elim
def seqD (ds : List D) (Q : List D → Prop) : Prop := match ds with
  | [.lst l] => Q l
  | [.tup l] => Q l
  | _ => False
def tupD (K : PySem.W.Frag) (ds : List D) (m : Nat) (Q : D → Nat → Prop) : Prop := match ds with
  | [.lst l] => Q (.tup l) m
  | [.tup l] => Q (.tup l) m
  | [.ext] => Ez K ∧ Q .ext m
  | _ => False
theorem dc_tupleA : DCall X (.type "tuple") (tupD X.K) := by
  refine ⟨fun w H m vs ds Q' Q hu hs h c => ?_⟩
  unfold tupD at h
  split at h
  · exact dc_tuple.run w H m vs _ Q' Q hu hs ⟨_, .inl rfl, h⟩ c
  · exact dc_tuple.run w H m vs _ Q' Q hu hs ⟨_, .inr rfl, h⟩ c
  · obtain ⟨h0, q⟩ := h
    obtain ⟨v, xs, rfl, h1, h2⟩ := hs.uncons
    cases h2.unnil
    have h3 := h1
    unfold Hd at h1
    exact wpC_of call_tuple_of ⟨_, [], by rw [h1], .inr ⟨h0.sq, c _ _ _ _ (Fr.refl _ _) hu (by rw [← h1]; exact h3) q⟩⟩
  · exact h.elim
theorem dc_listA : DCall X (.type "list") (fun ds m Q => seqD ds fun l => Q (.lst l) m) := by
  refine ⟨fun w H m vs ds Q' Q hu hs h c => ?_⟩
  unfold seqD at h
  split at h
  · exact dc_list.run w H m vs _ Q' Q hu hs ⟨_, .inl rfl, h⟩ c
  · exact dc_list.run w H m vs _ Q' Q hu hs ⟨_, .inr rfl, h⟩ c
  · exact h.elim
theorem do_pow : DOp X (binaryOp .Pow) (dI CPow fun i j => .int (i ^ j.toNat)) := do_I op_pow fun _ _ => ⟨rfl, rfl⟩
theorem dc_abs : DCall X (.builtin "abs") (fun ds m Q => ∃ i, ds = [.int i] ∧ Q (.int (if i < 0 then -i else i)) m) := by
  refine ⟨fun w H m vs ds Q' Q hu hs h c => ?_⟩
  obtain ⟨i, rfl, q⟩ := h
  obtain ⟨v, xs, rfl, h1, h2⟩ := hs.uncons
  cases h2.unnil
  rw [Hd.int] at h1; subst h1
  exact wpC_of call_abs ⟨_, rfl, c _ _ _ _ (Fr.refl _ _) hu (Hd.int.mpr rfl) q⟩
/-! ### a name walked: a list or a tuple or a text -/
def signsD (z : Str) : List D := z.cps.toList.map fun c => D.str ⟨#[c]⟩
theorem walks_str {w : W} {H0 : Hp} {z : Str} : Walks w H0 (Its z) (signsD z) := by
  have wl := walk_str (z := z)
  have hl : (signsD z).length = z.cps.size := by simp [signsD]
  refine ⟨⟨_, _, by rw [hl]; exact wl, fun w2 g H1 f => ⟨trivial, fun i x H2 m hi hu y => ?_⟩⟩⟩
  obtain ⟨rfl, c, e, rfl⟩ := y
  have hz : z.cps.toList[i]? = some c := by rw [Array.getElem?_toList]; exact e
  exact ⟨Fr.refl _ _, hu, fun _ z => z, .str ⟨#[c]⟩, by simp only [signsD, List.getElem?_map, hz]; rfl, Hd.str.mpr rfl⟩
theorem walks_ext {w : W} {H0 : Hp} {K : PySem.W.Frag} (h0 : Ez K) : Walks w H0 (Itt K Cl.e0) [] :=
  ⟨⟨_, _, walk_tup (K := K) (a := Cl.e0) (xs := []), fun w2 g H1 f => ⟨h0.sq, fun i x H2 m hi => absurd hi (Nat.not_lt_zero _)⟩⟩⟩
def walkD (K : PySem.W.Frag) (d : D) (Q : List D → Prop) : Prop := match d with
  | .lst l => Q l
  | .tup l => Q l
  | .str z => Q (signsD z)
  | .ext => Ez K ∧ Q []
  | _ => False
theorem di_var {tg : Expr} (i : Nat) (hd : De X (.Name x pos) (dVar i)) :
    Di X tg (.Name x pos) (fun env m Q => ∃ d, env[i]? = some (some d) ∧ walkD X.K d fun l => Q l m) := by
  refine ⟨fun w σ H env m Q' R sl hu hh c => ?_⟩
  obtain ⟨d, e, q⟩ := hh
  unfold walkD at q
  split at q
  · exact (di_lst hd (pi_list pe_self)).run w σ H env m Q' R sl hu ⟨_, e, _, rfl, q⟩ c
  · exact (di_tup hd (pi_tup pe_self)).run w σ H env m Q' R sl hu ⟨_, e, _, rfl, q⟩ c
  · refine wpI_of (pi_str pe_self) ?_
    refine hd.run w σ H env m (fun d mm => ∃ z, d = .str z ∧ Q' (signsD z) mm) _ sl hu ⟨_, e, _, rfl, q⟩ fun v d m1 H1 f1 u1 h1 q1 => ?_
    obtain ⟨z, rfl, q1⟩ := q1
    rw [Hd.str] at h1
    exact ⟨z, h1, c _ _ _ _ f1 u1 walks_str q1⟩
  · obtain ⟨h0, q⟩ := q
    refine wpI_of (pi_tup pe_self) ?_
    refine hd.run w σ H env m (fun d mm => d = .ext ∧ Q' [] mm) _ sl hu ⟨_, e, rfl, q⟩ fun v d m1 H1 f1 u1 h1 q1 => ?_
    obtain ⟨rfl, q1⟩ := q1
    unfold Hd at h1
    exact ⟨_, h1, ⟨_, h0.sq⟩, c _ _ _ _ f1 u1 (walks_ext h0) q1⟩
  · exact q.elim
/-! ### three names at once -/
def dPar3 (i j k : Nat) (ta : DA) : DS := fun nx _ env m => ta env m fun ds m1 => ∃ a b c, ds = [a, b, c] ∧ nx (((env.set i (some a)).set j (some b)).set k (some c)) m1
theorem ds_par3 {i j k : Nat} {x y z : Str} {a b c : Expr} {ta : DA} {px py pz pt : Pos} {kt k2 pt2} (hc : X.calm = true) (hN : X.N.Nodup) (ha : Da X [a, b, c] ta) (hi : X.N[i]? = some x := by rfl) (hj : X.N[j]? = some y := by rfl) (hk : X.N[k]? = some z := by rfl) (hij : i ≠ j := by decide) (hik : i ≠ k := by decide) (hjk : j ≠ k := by decide)
    (hx : X.env.scope.names.lookup x = some .local := by rfl) (hy : X.env.scope.names.lookup y = some .local := by rfl) (hz : X.env.scope.names.lookup z = some .local := by rfl)
    (hw : swappedStores [.Tuple [.Name x px, .Name y py, .Name z pz] kt pt] (.Tuple [a, b, c] k2 pt2) X.env = pure (some [x, y, z]) := by rfl)
    (hs : swapsWithSole [.Tuple [.Name x px, .Name y py, .Name z pz] kt pt] (.Tuple [a, b, c] k2 pt2) pos.line X.env = pure false := by rfl) :
    Ds X (.Assign [.Tuple [.Name x px, .Name y py, .Name z pz] kt pt] (.Tuple [a, b, c] k2 pt2) pos) (dPar3 i j k ta) := by
  refine ⟨fun w σ H env m nx rt Dn sl hu h cn r => wpS_of (ps_par3 hc hN hi hj hk hij hik hjk hx hy hz pa_self hw hs) ?_⟩
  refine ha.run w σ H env m _ _ sl hu h fun vs ds m1 H1 f1 u1 h1 q1 => ?_
  obtain ⟨a, b, c, rfl, q⟩ := q1
  obtain ⟨v1, r1, rfl, k1, k2⟩ := h1.uncons
  obtain ⟨v2, r2, rfl, k3, k4⟩ := k2.uncons
  obtain ⟨v3, r3, rfl, k5, k6⟩ := k4.uncons
  cases k6.unnil
  exact ⟨v1, v2, v3, rfl, cn _ _ _ _ f1 u1 ((((sl.fr f1).set i k1).set j k3).set k k5) q⟩
end
end TC
namespace TC
open PySem PySem.Spec PyProof.Rows L2
variable [Cl]
/-! ### the same data, by a look -/
mutual
def beqD : D → D → Bool
  | .non, .non => true
  | .bl a, .bl b => a == b
  | .int a, .int b => decide (a = b)
  | .str a, .str b => decide (a = b)
  | .lst a, .lst b => beqL a b
  | .tup a, .tup b => beqL a b
  | .urn, .urn => true
  | _, _ => false
def beqL : List D → List D → Bool
  | [], [] => true
  | a :: l, b :: r => beqD a b && beqL l r
  | _, _ => false
end
mutual
theorem beqD_eq : ∀ {a b : D}, beqD a b = true → a = b
  | .non, b, h => by cases b <;> simp_all [beqD]
  | .bl a, b, h => by cases b <;> simp_all [beqD]
  | .int a, b, h => by cases b <;> simp_all [beqD]
  | .str a, b, h => by cases b <;> simp_all [beqD]
  | .urn, b, h => by cases b <;> simp_all [beqD]
  | .ext, b, h => by cases b <;> simp_all [beqD]
  | .lst l, b, h => by
    cases b with
    | lst r => rw [beqD] at h; rw [beqL_eq h]
    | _ => simp [beqD] at h
  | .tup l, b, h => by
    cases b with
    | tup r => rw [beqD] at h; rw [beqL_eq h]
    | _ => simp [beqD] at h
theorem beqL_eq : ∀ {a b : List D}, beqL a b = true → a = b
  | [], b, h => by cases b <;> simp_all [beqL]
  | a :: l, b, h => by
    cases b with
    | nil => simp [beqL] at h
    | cons b r =>
      rw [beqL] at h
      simp only [Bool.and_eq_true] at h
      rw [beqD_eq h.1, beqL_eq h.2]
end
end TC
namespace TC
open PySem PySem.Spec PyProof.Rows L2
variable [Cl]
/-- the inner question of a comprehension over 0, 1, .. -/
theorem lc_in {i : Nat} {de : DE} {vs : List Nat} {env : Env} {m : Nat} {Q : List D → Nat → Prop} (N : Nat) (g : Nat → D)
    (he : ∀ k, k < N → ∀ mm (R : D → Nat → Prop), R (g k) mm → de ((wipeE env vs).set i (some (.int (k : Int)))) mm R) (q : Q ((List.range N).map g) m) :
    lcIn (dgName i) dYes de (wipeE env vs) (nats N) m Q := by
  have hl : (nats N).length = N := by simp [nats]
  refine ⟨fun k acc mm => mm = m ∧ acc = (List.range k).map g, ⟨rfl, rfl⟩, ?_, ?_⟩
  · rintro k d acc mm hd ⟨rfl, rfl⟩
    have hk : k < N := by
      obtain ⟨h1, _⟩ := List.getElem?_eq_some_iff.mp hd
      rw [hl] at h1; exact h1
    rw [nats_get hk] at hd
    cases hd
    refine he k hk mm _ ⟨rfl, ?_⟩
    rw [List.range_succ]
    simp
  · rintro acc mm ⟨rfl, rfl⟩
    rw [hl]
    exact q
end TC
namespace TC
open PySem PySem.Spec PyProof.Rows L2
variable [Cl]
theorem atD {l : List D} {z : Int} (j : Nat) {d : D} (e : z = (j : Int)) (h : l[j]? = some d) : atI l z = some d := by rw [e]; exact atI_nat h
end TC
namespace TC
open PySem PySem.Spec PyProof.Rows L2
variable [Cl]
/-- the part of a law over one urn -/
def spR (B : Nat) : DSp := fun ds m Q => ds = [.urn] ∧ B ≤ m ∧ ∀ mm, Q (.bl true) mm
def spBoxK (K : PySem.W.Frag) : Sp := fun vs H Q _ => ∃ (a : Addr) (ns : List Int) (k : Int), vs = [.ref a, .int k] ∧ SqL K H a (ns.map V.int) ∧ 0 ≤ k ∧ k < (ns.length : Nat) ∧ ns.length ≤ 1000 ∧
  ∀ H' p x y, Same H H' → H p = none → H' p = some (.lst [.int x, .int y, .int 0]) → Q (.ref p) H'
def dRB (ta tb : DE) : DE := fun env m Q => ta env m fun x m1 => tb env m1 fun y m2 => ∃ (ns : List Int) (k : Int), x = .lst (ns.map D.int) ∧ y = .int k ∧ 0 ≤ k ∧ k < (ns.length : Nat) ∧ ns.length ≤ 1000 ∧ Q (.bl true) m2
section
variable {X : Cx} {kR kB B : Nat} {fR fB : Addr} {fdR fdB : FuncData} {psR psB : List Str} {xR xB : Str} {p p2 pos pos2 : Pos} {e1 e2 : Expr} {ta tb : DE}
theorem de_rb (FR : FnOk X.prog X.w X.K X.mg X.base CX0 kR fR fdR psR (spD (spR B))) (hB : (B : Int) ≤ MAXC) (FB : FnOk X.prog X.w X.K X.mg X.base CX0 kB fB fdB psB (spBoxK X.K)) (hr : Room kR X.A) (hr2 : Room kB X.A) (hmR : X.mg xR = some (.ref fR)) (hkR : PySem.W.keepIn X.K (.ref fR) = true) (hbR : Binds X.K fdR psR [])
    (hmB : X.mg xB = some (.ref fB)) (hkB : PySem.W.keepIn X.K (.ref fB) = true) (hbB : Binds X.K fdB psB []) (ha : De X e1 ta) (hb : De X e2 tb) (hgR : Gl X xR := by rfl) (hgB : Gl X xB := by rfl) (hdR : (xR == ("__debug__" : Str)) = false := by decide) (hdB : (xB == ("__debug__" : Str)) = false := by decide)
    (hs1 : starEach [.Call (.Name xB p2) [e1, e2] [] pos2] X.env = (false, eval (.Call (.Name xB p2) [e1, e2] [] pos2) X.env) :: starEach [] X.env := by rfl) (hs2 : starEach [e1, e2] X.env = (false, eval e1 X.env) :: starEach [e2] X.env := by rfl) (hs3 : starEach [e2] X.env = (false, eval e2 X.env) :: starEach [] X.env := by rfl)
    (hp1 : (backTo pos (starEach [] X.env)).any (·.1) = false := by rfl) (hp2 : (backTo pos2 (starEach [e2] X.env)).any (·.1) = false := by rfl) :
    De X (.Call (.Name xR p) [.Call (.Name xB p2) [e1, e2] [] pos2] [] pos) (dRB ta tb) := by
  refine ⟨fun w σ H env m Q' Q sl hu h c => wp_of (pe_call FR hr hgR hmR hkR hbR .nil pass0 (pa_cons (pe_call FB hr2 hgB hmB hkB hbB .nil pass0 (pa_cons pe_self (pa_cons pe_self pa_nil hs3) hs2) hdB hs2 hp2) pa_nil hs1) hdR hs1 hp1) ?_⟩
  refine ha.run w σ H env m _ _ sl hu h fun v d m1 H1 f1 u1 h1 q1 => ?_
  refine hb.run w σ H1 env m1 _ _ (sl.fr f1) u1 q1 fun v2 d2 m2 H2 f2 u2 h2 q2 => ?_
  obtain ⟨ns, k, rfl, rfl, k0, k1, kl, q⟩ := q2
  have h1 := h1.fr f2
  rw [Hd.lst] at h1
  rw [Hd.int] at h2
  obtain ⟨a, vs, rfl, na, hp, hds⟩ := h1
  subst h2
  have e := hds.flat (by rw [List.all_eq_true]; intro d hd; obtain ⟨b, _, rfl⟩ := List.mem_map.mp hd; rfl)
  have e2 : (ns.map D.int).map fv = ns.map V.int := by rw [List.map_map]; rfl
  rw [e2] at e
  subst e
  refine ⟨a, ns, k, rfl, SqL.of hp, k0, k1, kl, fun H' pn x y sm np hpn => ?_⟩
  have up : UI ⟨some pn, [], [], fun _ h => h⟩ B H' := ⟨fun b hb => by cases hb; exact ⟨x, y, 0, hpn, Int.le_refl _, by simpa using hB⟩, fun b hb => by simp at hb⟩
  refine ⟨⟨some pn, [], [], fun _ h => h⟩, [.urn], B, fun d mm => d = .bl true, .cons (by unfold Hd; exact ⟨pn, rfl, rfl⟩) .nil, up, ⟨rfl, Nat.le_refl _, fun mm => rfl⟩, fun v d m' H3 f3 u3 h3 q3 => ?_⟩
  subst q3
  rw [Hd.bl] at h3
  subst h3
  have keep : ∀ b o, H2 b = some o → H3 b = some o := fun b o e => f3 b o (fun z => by cases z; rw [np] at e; cases e) (sm b o e)
  refine c _ _ m2 H3 (fun b o nb e => keep b o ((f1.trans f2) b o nb e)) ⟨fun b hb => ?_, fun b hb => ?_⟩ (Hd.bl.mpr rfl) q
  · obtain ⟨x, y, z, e, r⟩ := u2.1 b hb
    exact ⟨x, y, z, keep _ _ e, r⟩
  · obtain ⟨o, e⟩ := u2.2 b hb
    exact ⟨o, keep _ _ e⟩
end
end TC
namespace TC
open PySem PySem.Spec PyProof.Rows L2
variable [Cl]
/-! ### len(set(a tuple of texts)), of any texts -/
/-- how many unlike ones the first i are -/
def cnt (xs : List Str) : Nat → Nat
  | 0 => 0
  | i + 1 => if (xs.take i).any (· == xs.getD i Str.empty) then cnt xs i else cnt xs i + 1
theorem cnt_le (xs : List Str) : ∀ i, cnt xs i ≤ i
  | 0 => Nat.le_refl _
  | i + 1 => by
    have := cnt_le xs i
    rw [cnt]
    split <;> omega
abbrev newSet (led : Bool) : Obj := { cls := .type "set", dict := none, data := .set #[] 0 (.fresh 0 0 led) }
/-- the set at S holds the first i of xs -/
abbrev Holds (prog : Program) (w : World) (h : Heap) (S : Addr) (xs : List Str) (i : Nat) : Prop :=
  h.SetOf (PySem.strKind prog w) S (fun z => (xs.take i).any (· == z)) (cnt xs i)
section
variable {prog : Program} {w : World} {A : Around} {R : Result → Shared → Prop} {E : Value → Shared → Prop} {J : Addr} {fp wr : List Addr} {G : Array GenState → Array GenState → Prop} {n : Nat} {P : Nat → Value → Prop} {St : Nat → Shared → Prop}
theorem Holds.moves {h h' : Heap} {S : Addr} {xs : List Str} {i : Nat} (H : Holds prog w h S xs i) (m : ∀ o, h.get? S = some o → h'.get? S = some o) : Holds prog w h' S xs i := by
  obtain ⟨o, es, ep, t, ho, more⟩ := H
  exact ⟨o, es, ep, t, m o ho, more⟩
theorem take_any {xs : List Str} {i : Nat} (hi : i < xs.length) (z : Str) : (xs.take (i + 1)).any (· == z) = ((xs.take i).any (· == z) || decide (z = xs.getD i Str.empty)) := by
  have e : xs.getD i Str.empty = xs[i] := by simp [hi]
  rw [List.take_add_one, List.getElem?_eq_getElem hi, List.any_append, e]
  congr 1
  by_cases h : xs[i] = z
  · subst h; simp
  · have h' : ¬ z = xs[i] := fun q => h q.symm
    simp [h, h']
theorem set_turns (Wk : WalksS prog w A.in1 J fp wr G n P St) (S : Addr) (out : S ∉ fp) (xs : List Str) (hx : xs.length = n) (hn : n ≤ 4000)
    (val : ∀ i v, P i v → ∃ t, v = .str (xs.getD i Str.empty) t) (left : Nat) :
    ∀ (i : Nat) (s : Shared), i + left = n → St i s → Holds prog w s.heap S xs i →
      (∀ s', Moved (S :: wr) G s s' → Holds prog w s'.heap S xs n → R (.ok (.ret .none)) s') →
      codeAny (model prog w) A (.builtin "set.update.loop" ⟨[.ref S, .ref J], []⟩) R s := by
  have outw : S ∉ wr := fun h => out (Wk.sub _ h)
  have wider : ∀ b ∈ wr, b ∈ S :: wr := fun b hb => List.mem_cons_of_mem _ hb
  induction left with
  | zero =>
    intro i s hi st hS fin
    have hi : i = n := by omega
    subst hi
    refine codeAny_builtin PyProof.Rows.F.entry_set_update_loop ?_
    rw [Around.under_plainId PyProof.Rows.F.plain_set_update_loop _]
    refine wpAny_bind (Wk.done s _ _ st fun s' mv => ?_)
    exact wpAny_pure (fin s' (mv.mono wider) (hS.moves fun o e => mv.heap S o outw e))
  | succ left ih =>
    intro i s hi st hS fin
    have lt : i < n := by omega
    refine codeAny_builtin PyProof.Rows.F.entry_set_update_loop ?_
    rw [Around.under_plainId PyProof.Rows.F.plain_set_update_loop _]
    refine wpAny_bind (Wk.item i s _ _ lt st fun v s' hP st' mv => ?_)
    obtain ⟨t, rfl⟩ := val i v hP
    have hS1 := hS.moves (h' := s'.heap) fun o e => mv.heap S o outw e
    show wpAny _ A.in1 (holding [Value.str (xs.getD i Str.empty) t] (setAdd S (.str (xs.getD i Str.empty) t)) >>= _) _ _ s'
    refine wpAny_bind (wpAny_holding ?_)
    unfold setAdd
    refine wpAny_holding (wpAny_bind ((PySem.strKind prog w).pyHash (k := xs.getD i Str.empty) (strKind_is _ _ _ _) ?_))
    have room : cnt xs i + 1 < scanBound := by have := cnt_le xs i; unfold scanBound; omega
    refine wpAny_setAddHashed_of (knd := PySem.strKind prog w) (s := { s' with toks := s'.toks + 1 }) (strKind_is _ _ _ _) rfl hS1 room fun h' same hS2 => ?_
    have hS3 : Holds prog w h' S xs (i + 1) := by
      refine SetOf_congr hS2 (fun z => ?_) ?_
      · exact (take_any (by omega) z).symm
      · show (if _ = true then _ else _) = cnt xs (i + 1)
        rw [cnt]
    refine wpAny_pure ⟨plainId_quiet PyProof.Rows.F.plain_set_update_loop _, ih (i + 1) _ (by omega) (Wk.frame _ s' _ _ st' (Nat.le_succ _) fun b hb o e => ?_) hS3 fun s2 mv2 hS4 => ?_⟩
    · rw [same.2 b (fun q => out (q ▸ hb))]
      exact e
    · refine fin s2 (Moved.trans Wk.gtrans ((mv.mono wider).then_heap (Nat.le_succ _) fun b o hb e => ?_) mv2) hS4
      rw [same.2 b (fun q => hb (q ▸ List.mem_cons_self))]
      exact e
end
end TC
namespace TC
open PySem PySem.Spec PyProof.Rows L2
variable [Cl]
section
variable {prog : Program} {w : World} {A : Around} {E : Value → Shared → Prop} {s : Shared}
set_option maxHeartbeats 3200000 in
theorem set_of_tuple {l : Addr} {its : Array Value} {xs : List Str} {Q : Value → Shared → Prop} (calm : A.handled = none) (hl : s.heap.IsTuple l its) (hv : StrsAre its.toList xs) (hn : xs.length ≤ 4000)
    (fin : ∀ (h' : Heap) (tk : Nat), Holds prog w h' s.heap.objs.size xs its.size → (∀ b o, b < s.heap.objs.size → s.heap.get? b = some o → h'.get? b = some o) → Q (.ref s.heap.objs.size) { s with heap := h', toks := tk }) :
    wpAny (model prog w) A (call (.type "set") [.ref l]) Q E s := by
  obtain ⟨c, tl, hmro⟩ := PySem.F.called_set.mro
  have k1 := PySem.F.called_set.made
  have k2 := PySem.F.called_set.sub
  refine wpAny_call (codeAny_of_tree ?_)
  refine wpAny_pure ⟨Code.quiet_builtin _ (by decide +kernel), codeAny_builtin PySem.F.entry_type_call ?_⟩
  rw [Around.under_plain (weight_type_call_type "set" [.ref l] []) rfl]
  have k3 := PySem.F.called_set.notType
  have k4 := PySem.F.called_set.canCreate
  have k5 := PySem.F.typeCall_set_1 (.ref l)
  repeat (any_goals (first | assumption | wp_step))
  refine codeAny_mono (code_set_new_1 (.ref l) (E := E) (Q₁ := fun obj s1 => ∃ led : Bool, obj = .ref s.heap.objs.size ∧ s1 = { s with heap := s.heap.push (newSet led) }) fun led => ⟨led, rfl, rfl⟩) fun r s1 hr => ?_
  match r, hr with
  | .error e, hr => exact hr
  | .ok (.ret obj), hr =>
    obtain ⟨led, rfl, rfl⟩ := hr
    have at0 : (s.heap.push (newSet led)).get? s.heap.objs.size = some (newSet led) := Heap.get?_push_size _ rfl
    have ty0 : Shared.TypeIs { s with heap := s.heap.push (newSet led) } (.ref s.heap.objs.size) "set" := ⟨_, at0, rfl⟩
    have k6 := PySem.F.called_set.init.lookup
    have k7 := PySem.F.called_set.init.bind (.ref s.heap.objs.size)
    repeat (any_goals (first | assumption | wp_step))
    refine codeAny_mono (codeAny_call_builtin (R := wants (fun r s2 => r = .none ∧ ∃ h' tk, s2 = { s with heap := h', toks := tk } ∧ Holds prog w h' s.heap.objs.size xs its.size ∧ (∀ b o, b < s.heap.objs.size → s.heap.get? b = some o → h'.get? b = some o)) E)
      PySem.F.called_set.init.plain PySem.F.entry_set_init (check_set_init_1 ty0 ?_)) fun r2 s2 hr2 => ?_
    · obtain ⟨⟨cl, di, da, sl⟩, hol, hcl, nl, hdl⟩ := hl
      simp only at hcl hdl
      subst hcl; subst hdl
      have hol2 : (s.heap.push (newSet led)).get? l = some { cls := .type "tuple", dict := di, data := .seq its nl, slots := sl } := Heap.get?_push_of_some _ hol
      have q1 := PySem.F.sub_tuple_set
      have q2 := PySem.F.sub_tuple_frozenset
      have q3 : (Value.type "tuple" == Value.type "dict") = false := by decide
      have hl2 : (s.heap.push (newSet led)).IsTuple l its := ⟨_, hol2, rfl, nl, rfl⟩
      have lt : l < s.heap.objs.size := Heap.lt_size hol
      have two : (s.heap.push (newSet led)).objs.size = s.heap.objs.size + 1 := Heap.size_push ..
      unfold Builtin.«set.__init__» noKeywords Builtin.Frozenset.updateFrom
      generalize hPI : pyIter = PI
      wp_walk
      subst hPI
      refine wpAny_pyIter_tuple hl2 (wpAny_bind (wpAny_runValue ?_))
      have still : A.in1.in1.in1.handled = none := by simp [calm]
      have lI : l ≠ (s.heap.push (newSet led)).objs.size := by rw [two]; exact Nat.ne_of_lt (Nat.lt_succ_of_lt lt)
      have out : s.heap.objs.size ∉ [(s.heap.push (newSet led)).objs.size, l] := by
        rw [two]
        simp only [List.mem_cons, List.not_mem_nil, or_false, not_or]
        exact ⟨Nat.ne_of_lt (Nat.lt_succ_self _), Nat.ne_of_gt lt⟩
      have hx : xs.length = its.size := by rw [← StrsAre.len_eq hv, Array.length_toList]
      refine set_turns ((Walks.tuple still _ l lI its).toS) s.heap.objs.size out xs hx (by omega) (fun i v e => SS.strs_at hv i v (by rw [Array.getElem?_toList]; exact e)) its.size 0 _ (by omega) ⟨⟨_, Heap.get?_push_size _ rfl, rfl, rfl⟩, hl2.push _⟩ ?_ ?_
      · refine PyProof.Rows.SetOf_congr ((PyProof.Rows.setObjOf_fresh (knd := PySem.strKind prog w) led).setOf (Heap.get?_push_of_some _ at0) (by unfold scanBound; omega)) (fun _ => rfl) rfl
      · rintro ⟨h', g', d', tk', os'⟩ mv hS
        obtain rfl : g' = s.gens := mv.gens
        obtain rfl : d' = s.drawn := mv.drawn
        obtain rfl : os' = s.os := mv.os
        show wpAny _ _ _ _ _ _
        refine wpAny_pure (wpAny_pure ⟨rfl, h', tk', rfl, hS, fun b o hb e => ?_⟩)
        refine mv.heap b o ?_ (Heap.get?_push_of_some _ (Heap.get?_push_of_some _ e))
        rw [two]
        simp only [List.mem_cons, List.not_mem_nil, or_false, not_or]
        exact ⟨Nat.ne_of_lt hb, Nat.ne_of_lt (Nat.lt_succ_of_lt hb)⟩
    · match r2, hr2 with
      | .error e, hr2 => exact hr2
      | .ok (.ret r), hr2 =>
        obtain ⟨rfl, h', tk, rfl, hS, hk⟩ := hr2
        repeat (any_goals (first | assumption | wp_step))
        exact fin _ _ hS hk
      | .ok .next, hr2 => exact hr2.elim
      | .ok .brk, hr2 => exact hr2.elim
      | .ok .cont, hr2 => exact hr2.elim
  | .ok .next, hr => exact hr.elim
  | .ok .brk, hr => exact hr.elim
  | .ok .cont, hr => exact hr.elim
end
end TC
namespace TC
open PySem PySem.Spec PyProof.Rows L2
variable [Cl]
section
variable {X : Cx} {a b c e elt tg iter : Expr} {te ta tb tc : DE} {pos p p2 q : Pos}
def dLenSet (te : DE) : DE := fun env m Q => te env m fun d m1 => ∃ xs : List Str, d = .tup (xs.map D.str) ∧ xs.length ≤ 4000 ∧ Q (.int (cnt xs xs.length : Nat)) m1
theorem de_lenset (hm : X.mg "len" = none) (hm2 : X.mg "set" = none) (ha : De X a te) (hc : X.calm = true := by rfl) (hg : Gl X "len" := by rfl) (hg2 : Gl X "set" := by rfl) (na : starEach [a] X.env = (false, eval a X.env) :: starEach [] X.env := by rfl) :
    De X (.Call (.Name "len" p) [.Call (.Name "set" p2) [a] [] q] [] pos) (dLenSet te) := by
  refine ⟨fun w σ H env m Q' Q sl hu h k pins s I => ?_⟩
  refine Call_ (ld_blt I hg hm boot_len ?_)
  refine PyProof.Rows.callWith_builtin1 (PyProof.Rows.args_cons ?_ rfl) rfl rfl
  refine Call_ (ld_blt I hg2 hm2 boot_set ?_)
  have got := ha.run w σ H env m _ (fun v H1 => ∃ (l : Addr) (xs : List Str), v = .ref l ∧ SqT X.K H1 l (xs.map V.str) ∧ xs.length ≤ 4000 ∧ Q (.int (cnt xs xs.length : Nat)) H1) sl hu h (fun v d m1 H1 f1 u1 h1 q1 => by
    obtain ⟨xs, rfl, hl, q1⟩ := q1
    rw [Hd.tup] at h1
    obtain ⟨l, vs, rfl, _, hp, hds⟩ := h1
    have := hds.flat (by rw [List.all_eq_true]; intro d hd; obtain ⟨b, _, rfl⟩ := List.mem_map.mp hd; rfl)
    have e2 : (xs.map D.str).map fv = xs.map V.str := by rw [List.map_map]; rfl
    rw [e2] at this
    subst this
    exact ⟨l, xs, rfl, SqT.of hp, hl, k _ _ _ _ f1 u1 (Hd.int.mpr rfl) q1⟩) pins s I
  refine PyProof.Rows.callWith_type1 (PyProof.Rows.args_cons (thn got fun v s1 ⟨x, H1, I1, r1, q1⟩ => PyProof.Rows.args_nil ?_) na) na rfl
  obtain ⟨l, xs, rfl, hq, hl, q1⟩ := q1
  cases r1
  obtain ⟨its, r, pl, hz⟩ := I1.tuple hq
  have size : its.toArray.size = xs.length := by rw [List.size_toArray, ← r.length, List.length_map]
  refine set_of_tuple (I1.ok.hd hc) pl (by simpa using strsAre_of r) hl fun h' tk hS hk => ?_
  refine PyProof.Rows.args_nil ?_
  rw [size] at hS
  obtain ⟨o, es, ep, t, ho, hex, hd, _, _, _, hf, hn⟩ := hS
  have I2 : Inv X pins σ H1 { s1 with heap := h', toks := tk } := I1.kept fun b o e => hk b o (Heap.lt_size e) e
  have small := cnt_le xs xs.length
  exact call_len_set ho hex hd hf (by rw [hn] <;> omega) ⟨.int (cnt xs xs.length : Nat), H1, I2.tok _, ⟨_, by rw [hn]⟩, q1⟩
/-! ### two comparisons at once -/
def dChain (t u : D2) (ta tb tc : DE) : DE := fun env m Q => ta env m fun x m1 => tb env m1 fun y m2 => t x y m2 fun z m3 => ∃ k, z = .bl k ∧ if k = true then tc env m3 fun v m4 => u y v m4 Q else Q (.bl false) m3
theorem de_chain {op op' : CmpOp} {t u : D2} (ho : DOp X (compareOp op) t) (ho' : DOp X (compareOp op') u) (ha : De X a ta) (hb : De X b tb) (hc : De X c tc) (hm : lastMarks [op, op'] [b, c] = false := by with_unfolding_all rfl) :
    De X (.Compare a [op, op'] [b, c] pos) (dChain t u ta tb tc) := by
  refine ⟨fun w σ H env m Q' Q sl hu h k => wp_of (pe_chain op_self op_self pe_self pe_self pe_self hm) ?_⟩
  refine ha.run w σ H env m _ _ sl hu h fun v d m1 H1 f1 u1 h1 q1 => ?_
  refine hb.run w σ H1 env m1 _ _ (sl.fr f1) u1 q1 fun v2 d2 m2 H2 f2 u2 h2 q2 => ?_
  refine ho.run w H2 m2 v v2 d d2 _ _ u2 (h1.fr f2) h2 q2 fun v3 d3 m3 H3 f3 u3 h3 q3 => ?_
  obtain ⟨b, rfl, q3⟩ := q3
  rw [Hd.bl] at h3; subst h3
  refine ⟨b, rfl, ?_⟩
  have fr := f1.trans (f2.trans f3)
  cases b with
  | false => exact iteF (k _ _ _ _ fr u3 (Hd.bl.mpr rfl) (by simpa using q3))
  | true =>
    refine iteT (hc.run w σ H3 env m3 _ _ (sl.fr fr) u3 (by simpa using q3) fun v4 d4 m4 H4 f4 u4 h4 q4 => ?_)
    exact ho'.run w H4 m4 v2 v4 d2 d4 _ _ u4 (h2.fr (f3.trans f4)) h4 q4 (k.from (fr.trans f4))
def dleS : D2 := fun x y m Q => match x, y with
  | .int i, .int j => Q (.bl (decide (i ≤ j))) m
  | .str i, .str j => Q (.bl (!decide (j.cps.toList < i.cps.toList))) m
  | _, _ => False
theorem do_leS : DOp X (compareOp .LtE) dleS := by
  refine ⟨fun w H m x y dx dy Q' Q hu hx hy h c => ?_⟩
  unfold dleS at h
  split at h
  · rw [Hd.int] at hx hy
    subst hx; subst hy
    exact wpOp_of op_le ⟨_, _, rfl, rfl, c _ _ _ _ (Fr.refl _ _) hu (Hd.bl.mpr rfl) h⟩
  · rw [Hd.str] at hx hy
    subst hx; subst hy
    exact wpOp_of op_le_str ⟨_, _, rfl, rfl, c _ _ _ _ (Fr.refl _ _) hu (Hd.bl.mpr rfl) h⟩
  · exact h.elim
theorem de_upper {apos : Pos} (ho : De X a ta) (hbase : attributeBase a "upper" X.env (eval a X.env) = eval a X.env := by rfl) (hline : (apos.endLine == pos.line) = true := by rfl) :
    De X (.Call (.Attribute a "upper" apos) [] [] pos) (fun env m Q => ta env m fun x m1 => ∃ z, x = .str z ∧ z.length ≤ 5592405 ∧ Q (.str (Txt.upper z)) m1) := by
  refine ⟨fun w σ H env m Q' Q sl hu h k => wp_of (pe_upper pe_self hbase hline) ?_⟩
  refine ho.run w σ H env m _ _ sl hu h fun v d m1 H1 f1 u1 h1 q1 => ?_
  obtain ⟨z, rfl, hz, q⟩ := q1
  rw [Hd.str] at h1; subst h1
  exact ⟨⟨z, rfl⟩, z, rfl, rfl, hz, k _ _ _ _ f1 u1 (Hd.str.mpr rfl) q⟩
end
end TC
namespace TC
open PySem PySem.Spec PyProof.Rows L2
variable [Cl]
section
variable {X : Cx}
/-- a text so many times -/
def repS (z : Str) (n : Nat) : Str := ⟨(List.replicate n z.cps).foldl (· ++ ·) #[]⟩
def dmul : D2 := fun x y m Q => match x, y with
  | .int i, .int j => CMul i j ∧ Q (.int (i * j)) m
  | .lst l, .int k => 0 ≤ k ∧ k < 2 ^ 63 ∧ l.length * k.toNat ≤ sizeLine ∧ Q (.lst (List.replicate k.toNat l).flatten) m
  | .str z, .int k => 2 ≤ k ∧ k ≤ 1000 ∧ 0 < z.length ∧ z.length ≤ 1000 ∧ Q (.str (repS z k.toNat)) m
  | _, _ => False
theorem Hds.rep {w : W} {H : Hp} {vs : List V} {ds : List D} (h : Hds w H vs ds) : ∀ n : Nat, Hds w H (List.replicate n vs).flatten (List.replicate n ds).flatten
  | 0 => .nil
  | n + 1 => by
    rw [List.replicate_succ, List.replicate_succ, List.flatten_cons, List.flatten_cons]
    exact h.app (h.rep n)
theorem fold_len (a : Array Nat) : ∀ (n : Nat) (acc : Array Nat), ((List.replicate n a).foldl (· ++ ·) acc).size = acc.size + n * a.size
  | 0, acc => by simp
  | n + 1, acc => by
    rw [List.replicate_succ, List.foldl_cons, fold_len a n, Array.size_append, Nat.succ_mul]
    omega
theorem rep_len (z : Str) (n : Nat) : (repS z n).length = n * z.length := by
  show ((List.replicate n z.cps).foldl (· ++ ·) #[]).size = n * z.cps.size
  rw [fold_len]
  simp
theorem op_mul_str {R : R2} (hR : ∀ x y H Q, R x y H Q → ∃ (z : Str) (k : Int), x = .str z ∧ y = .int k ∧ 2 ≤ k ∧ k ≤ 1000 ∧ 0 < z.length ∧ z.length ≤ 1000 ∧ Q (.str (repS z k.toNat)) H) : OpR X (binaryOp .Mult) R := by
  intro pins s σ H x y v u Q I rx ry h
  obtain ⟨z, k, rfl, rfl, k0, k1, z0, z1, q⟩ := hR _ _ _ _ h
  obtain ⟨t, rfl⟩ := rx
  obtain ⟨t2, rfl⟩ := ry
  have n1 : ¬ k < 1 := by omega
  have n2 : (k == 1 || z.length == 0) = false := by
    rw [Bool.or_eq_false_iff]
    exact ⟨by simp; omega, by simp; omega⟩
  have lim : z.length * k.toNat ≤ 1000 * 1000 := Nat.mul_le_mul z1 (by omega)
  have d1 : decide (k < -(2 ^ 63 : Int)) = false := decide_eq_false (by omega)
  have d2 : decide (k ≥ 2 ^ 63) = false := decide_eq_false (by omega)
  have fits : ∀ n : Nat, n ≤ 1000 * 1000 → Builtin.Str.tooLong n = false := fun n h => by
    unfold Builtin.Str.tooLong
    exact decide_eq_false (Nat.not_lt.mpr (Nat.le_trans h (by decide)))
  refine P.mul_str (by rw [d1, d2]; rfl) (fun _ _ => ?_) (fun _ _ => fits _ lim) ?_
  · intro big
    have h1 : (2 ^ 63 - 1) / k * k ≤ 2 ^ 63 - 1 := Int.ediv_mul_le _ (by omega)
    have h2 : (2 ^ 63 - 1 : Int) < ((2 ^ 63 - 1) / k + 1) * k := Int.lt_ediv_add_one_mul_self _ (by omega)
    have h3 : ((2 ^ 63 - 1) / k + 1) * k ≤ 1001 * 1000 := Int.mul_le_mul (by omega) k1 (by omega) (by omega)
    omega
  · rw [if_neg n1, if_neg (by rw [n2]; exact Bool.false_ne_true)]
    refine ⟨?_, .str (repS z k.toNat), H, I.tok _, ⟨_, rfl⟩, q⟩
    have := rep_len z k.toNat
    unfold repS at this
    rw [this]
    exact Nat.le_trans (by rw [Nat.mul_comm]; exact lim) (by decide)
theorem do_mulA : DOp X (binaryOp .Mult) dmul := by
  refine ⟨fun w H m x y dx dy Q' Q hu hx hy h c => ?_⟩
  unfold dmul at h
  split at h
  · rw [Hd.int] at hx hy
    subst hx; subst hy
    exact wpOp_of op_mul ⟨_, _, rfl, rfl, h.1, c _ _ _ _ (Fr.refl _ _) hu (Hd.int.mpr rfl) h.2⟩
  · rw [Hd.int] at hy
    rw [Hd.lst] at hx
    obtain ⟨a, vs, rfl, na, ha, hs⟩ := hx
    subst hy
    obtain ⟨k0, k1, k2, q⟩ := h
    refine wpOp_of op_rep ⟨_, _, _, rfl, rfl, ha, by omega, k1, by rw [hs.len]; exact k2, fun p hp => ?_⟩
    exact c _ _ _ _ (Fr.upd hp) (hu.upd hp) (new_lst hu (hs.rep _) hp) q
  · rw [Hd.int] at hy
    rw [Hd.str] at hx
    subst hx; subst hy
    obtain ⟨k0, k1, z0, z1, q⟩ := h
    refine wpOp_of (r := fun x y H Q => ∃ (z : Str) (k : Int), x = .str z ∧ y = .int k ∧ 2 ≤ k ∧ k ≤ 1000 ∧ 0 < z.length ∧ z.length ≤ 1000 ∧ Q (.str (repS z k.toNat)) H) (op_mul_str fun _ _ _ _ h => h) ?_
    exact ⟨_, _, rfl, rfl, k0, k1, z0, z1, c _ _ _ _ (Fr.refl _ _) hu (Hd.str.mpr rfl) q⟩
  · exact h.elim
end
end TC
namespace TC
open PySem PySem.Spec PyProof.Rows L2
variable [Cl]
theorem Hd.obj {w : W} {H : Hp} {v : V} {c : Nat} {l : List D} : Hd w H v (.obj c l) ↔ ∃ a dx vs, v = .ref a ∧ ¬ w.av a ∧ ¬ w.av dx ∧ H dx = some (.own a) ∧ H a = some (.ins (Cl.c c).1 dx ((Cl.c c).2.zip vs)) ∧ Hds w H vs l := by rw [Hd]
theorem zip_look : ∀ {ns : List Str} {vs : List V} {i : Nat} {f : Str} {x : V}, ns.Nodup → ns[i]? = some f → vs[i]? = some x → (ns.zip vs).lookup f = some x
  | n :: ns, v :: vs, 0, f, x, _, h1, h2 => by
    simp at h1 h2
    subst h1; subst h2
    simp
  | n :: ns, v :: vs, i + 1, f, x, nd, h1, h2 => by
    have hm : f ∈ ns := List.mem_of_getElem? (by simpa using h1)
    have hne : (f == n) = false := by
      rw [beq_eq_false_iff_ne]
      exact fun e => (List.nodup_cons.mp nd).1 (e ▸ hm)
    show ((n, v) :: ns.zip vs).lookup f = some x
    rw [List.lookup_cons, hne]
    exact zip_look (List.nodup_cons.mp nd).2 (by simpa using h1) (by simpa using h2)
section
variable {X : Cx} {e : Expr} {es : List Expr} {te : DE} {t : DA} {pos : Pos}
/-- o.f of an object of the class number c, its i-th field -/
def dFld (c i : Nat) (te : DE) : DE := fun env m Q => te env m fun d m1 => ∃ l x, d = .obj c l ∧ l[i]? = some x ∧ Q x m1
theorem de_fld {f : Str} (c i : Nat) (ha : De X e te) (hC : Cls X.K (Cl.c c).1) (hn : NoAttr X.K (Cl.c c).1 f) (hi : (Cl.c c).2[i]? = some f) (nd : (Cl.c c).2.Nodup) (hb : attributeBase e f X.env (eval e X.env) = eval e X.env := by rfl) :
    De X (.Attribute e f pos) (dFld c i te) := by
  refine ⟨fun w σ H env m Q' Q sl hu h k => wp_of (pe_fld pe_self hb) ?_⟩
  refine ha.run w σ H env m _ _ sl hu h fun v d m1 H1 f1 u1 h1 q1 => ?_
  obtain ⟨l, x, rfl, hx, q⟩ := q1
  rw [Hd.obj] at h1
  obtain ⟨a, dx, vs, rfl, na, nd2, hd, hp, hds⟩ := h1
  obtain ⟨y, hy, hyx⟩ := hds.get hx
  exact ⟨a, _, dx, _, y, rfl, hp, hC, hn, zip_look nd hi hy, k _ _ _ _ f1 u1 hyx q⟩
/-- o.f by a property: the getter's promise by data -/
theorem de_prop {k : Nat} {p g : Addr} {f : Str} {fd : FuncData} {ps : List Str} {sp : DSp} (c : Nat) (ha : De X e te) (hC : Cls X.K (Cl.c c).1) (hp : PropOf X.K (Cl.c c).1 f p g) (F : FnOk X.prog X.w X.K X.mg X.base CX0 k g fd ps (spD sp)) (hr : Room (k + 1) X.A) (hbd : Binds X.K fd ps [])
    (hb : attributeBase e f X.env (eval e X.env) = eval e X.env := by rfl) : De X (.Attribute e f pos) (fun env m Q => te env m fun d m1 => ∃ l, d = .obj c l ∧ sp [d] m1 Q) := by
  refine ⟨fun w σ H env m Q' Q sl hu h k => wp_of (pe_prop pe_self hC hp F hr hbd .nil pass0 hb) ?_⟩
  refine ha.run w σ H env m _ _ sl hu h fun v d m1 H1 f1 u1 h1 q1 => ?_
  obtain ⟨l, rfl, q⟩ := q1
  have h2 := h1
  rw [Hd.obj] at h1
  obtain ⟨a, dx, vs, rfl, na, nd2, hd, hpp, hds⟩ := h1
  exact ⟨a, dx, _, rfl, hpp, w, [.obj c l], m1, _, .cons h2 .nil, u1, q, k.from f1⟩
end
end TC
namespace TC
open PySem PySem.Spec PyProof.Rows L2
variable [Cl]
/-- an object of a class is written -/
theorem UI.inst {w : W} {m : Nat} {H : Hp} {a : Addr} {o : HO} (h : UI w m H) (n : ¬ w.av a) : UI w m (L2.upd H a o) := by
  refine ⟨fun b e => ?_, fun b hb => ?_⟩
  · obtain ⟨x, y, z, e', r⟩ := h.1 b e
    exact ⟨x, y, z, by rw [upd_ne (fun z => n (.inl (by rw [← z]; exact e)))]; exact e', r⟩
  · obtain ⟨o', e⟩ := h.2 b hb
    exact ⟨o', by rw [upd_ne (fun z => n (.inr (by rw [← z]; exact hb)))]; exact e⟩
/-- what an __init__ promises: the fields as data -/
abbrev DIn := List D → Nat → (List D → Nat → Prop) → Prop
def spInit (c : Nat) (sp : DIn) : Sp := fun vs H Q _ => ∃ (w : W) (Hb : Hp) (a dx : Addr) (ds : List D) (us : List V) (m : Nat) (Q' : List D → Nat → Prop), (Hb a = none ∧ ∀ b o, Hb b = some o → H b = some o) ∧ vs = .ref a :: us ∧ H a = some (.ins (Cl.c c).1 dx []) ∧ H dx = some (.own a) ∧ dx ≠ a ∧ ¬ w.av a ∧ ¬ w.av dx ∧ Hds w Hb us ds ∧ UI w m H ∧ sp ds m Q' ∧
  ∀ (fs : List D) (m' : Nat) (H' : Hp) (xs : List V), (∀ b o, b ≠ a → w.u ≠ some b → H b = some o → H' b = some o) → UI w m' H' → H' a = some (.ins (Cl.c c).1 dx ((Cl.c c).2.zip xs)) → Hds w H' xs fs → Q' fs m' → Q .non H'
section
variable {X : Cx} {e : Expr} {es : List Expr} {t : DA} {p pos : Pos} {k : Nat} {f : Addr} {fd : FuncData} {ps : List Str} {sp : DIn} {x : Str}
theorem de_make (c : Nat) (M : Mk X.K (Cl.c c).1 f) (F : FnOk X.prog X.w X.K X.mg X.base CX0 k f fd ps (spInit c sp)) (hr : Room (k + 1) X.A) (hm : X.mg x = some (.ref (Cl.c c).1)) (hb : Binds X.K fd ps []) (ha : Da X (e :: es) t) (hg : Gl X x := by rfl)
    (hdb : (x == ("__debug__" : Str)) = false := by decide) (he : starEach (e :: es) X.env = (false, eval e X.env) :: starEach es X.env := by rfl) (hpl : (backTo pos (starEach es X.env)).any (·.1) = false := by rfl) :
    De X (.Call (.Name x p) (e :: es) [] pos) (fun env m Q => t env m fun ds m1 => sp ds m1 fun fs m2 => Q (.obj c fs) m2) := by
  refine ⟨fun w σ H env m Q' Q sl hu h k => wp_of (pe_make M F hr hg hm hb .nil pass0 pa_self hdb he hpl) ?_⟩
  refine ha.run w σ H env m _ _ sl hu h fun vs ds m1 H1 f1 u1 h1 q1 a dx na nd ne => ?_
  rw [List.append_nil]
  have f2 : Fr w H1 (upd (upd H1 dx (.own a)) a (.ins (Cl.c c).1 dx [])) := fun b o _ e => by rw [upd_ne (ne_of_none e na), upd_ne (ne_of_none e nd)]; exact e
  have na2 : upd H1 dx (.own a) a = none := by rw [upd_ne (Ne.symm ne)]; exact na
  refine ⟨w, H1, a, dx, ds, vs, m1, _, ⟨na, fun b o e => by rw [upd_ne (ne_of_none e na), upd_ne (ne_of_none e nd)]; exact e⟩, rfl, upd_same, by rw [upd_ne ne, upd_same], ne, u1.new na, u1.new nd, h1, (u1.upd nd).upd na2, q1, fun fs m' H' xs kp u' hp hx q => ⟨rfl, ?_⟩⟩
  refine k _ _ m' H' (fun b o nb e => ?_) u' ?_ q
  · have e1 := f1 b o nb e
    exact kp b o (ne_of_none e1 na) nb (f2 b o nb e1)
  · rw [Hd.obj]
    refine ⟨a, dx, xs, rfl, u1.new na, u1.new nd, ?_, hp, hx⟩
    refine kp dx _ ne (fun z => u1.new nd (.inl z)) ?_
    rw [upd_ne ne, upd_same]
end
end TC
namespace TC
open PySem PySem.Spec PyProof.Rows L2
variable [Cl]
section
variable {X : Cx} {fe e : Expr} {es : List Expr} {te : DE} {t : DA} {p pos : Pos} {k : Nat} {g : Addr} {fd : FuncData} {ps : List Str} {sp : DSp}
/-- o(e, ..), o an object whose class has a __call__ -/
theorem de_callO (n : Nat) (hf : De X fe te) (c : StX.CallO X.K (Cl.c n).1 g) (F : FnOk X.prog X.w X.K X.mg X.base CX0 k g fd ps (spD sp)) (hr : Room k X.A) (hb : Binds X.K fd ps []) (ha : Da X (e :: es) t)
    (ht : eval (.Call fe (e :: es) [] pos) X.env = (do callWith pos (← eval fe X.env) [] (backTo pos (starEach (e :: es) X.env)) (backToKw pos (keywordEach [] X.env))) := by rfl)
    (he : starEach (e :: es) X.env = (false, eval e X.env) :: starEach es X.env := by rfl) (hpl : (backTo pos (starEach es X.env)).any (·.1) = false := by rfl) :
    De X (.Call fe (e :: es) [] pos) (fun env m Q => te env m fun d m1 => ∃ l, d = .obj n l ∧ t env m1 fun ds m2 => sp (.obj n l :: ds) m2 Q) := by
  refine ⟨fun w σ H env m Q' Q sl hu h k => wp_of (StX.pe_callO pe_self c (F.raw hb .nil) hr pass0 pa_self ht he hpl) ?_⟩
  refine hf.run w σ H env m _ _ sl hu h fun v d m1 H1 f1 u1 h1 q1 => ?_
  obtain ⟨l, rfl, q⟩ := q1
  have h2 := h1
  rw [Hd.obj] at h1
  obtain ⟨a, dx, vs, rfl, na, nd2, hd, hpp, hds⟩ := h1
  refine ⟨a, rfl, ?_⟩
  refine ha.run w σ H1 env m1 _ _ (sl.fr f1) u1 q fun us ds m2 H2 f2 u2 h3 q3 => ?_
  refine ⟨.inr ⟨dx, _, f2 _ _ (W.nu na) hpp⟩, ?_⟩
  show spD sp ((V.ref a :: us) ++ []) H2 Q E0
  rw [List.append_nil]
  exact ⟨w, .obj n l :: ds, m2, _, .cons (h2.fr f2) h3, u2, q3, k.from (f1.trans f2)⟩
end
end TC
namespace TC
open PySem PySem.Spec PyProof.Rows L2
variable [Cl]
/-! ### lists of a def's own, that it fills -/
theorem Hd.cell {w : W} {H : Hp} {v : V} {p : Addr} {l : List D} : Hd w H v (.cell p l) ↔ v = .ref p ∧ p ∈ w.ce ∧ w.u ≠ some p ∧ ∃ vs, H p = some (.lst vs) ∧ Hds w H vs l := by rw [Hd]
theorem flat_noc {d : D} (h : flatD d = true) : noc d = true := by cases d <;> first | rfl | simp [flatD] at h
theorem flat_nocL {l : List D} (h : l.all flatD = true) : nocL l = true := nocL_mem fun d hd => flat_noc (List.all_eq_true.mp h d hd)
/-- a world that knows fewer cells -/
structure Less (w0 w : W) : Prop where
  u : w.u = w0.u
  ex : ∀ a ∈ w0.ex, a ∈ w.ex
theorem Less.av {w0 w : W} (l : Less w0 w) {a : Addr} (n : ¬ w.av a) : ¬ w0.av a := fun z => n (z.elim (fun z => .inl (by rw [l.u]; exact z)) fun z => .inr (l.ex _ z))
mutual
theorem Hd.less {w0 w : W} (l : Less w0 w) {H : Hp} {v : V} : ∀ {d : D}, noc d = true → Hd w H v d → Hd w0 H v d
  | .non, _, h => by unfold Hd at h ⊢; exact h
  | .bl b, _, h => by unfold Hd at h ⊢; exact h
  | .int i, _, h => by unfold Hd at h ⊢; exact h
  | .str s, _, h => by unfold Hd at h ⊢; exact h
  | .lst r, c, h => by
    rw [noc] at c
    unfold Hd at h ⊢
    obtain ⟨a, vs, e, n, ha, hs⟩ := h
    exact ⟨a, vs, e, l.av n, ha, Hds.less l c hs⟩
  | .tup r, c, h => by
    rw [noc] at c
    unfold Hd at h ⊢
    obtain ⟨a, vs, e, n, ha, hs⟩ := h
    exact ⟨a, vs, e, l.av n, ha, Hds.less l c hs⟩
  | .obj k r, c, h => by
    rw [noc] at c
    unfold Hd at h ⊢
    obtain ⟨a, dx, vs, e, n, n2, hd, ha, hs⟩ := h
    exact ⟨a, dx, vs, e, l.av n, l.av n2, hd, ha, Hds.less l c hs⟩
  | .urn, _, h => by unfold Hd at h ⊢; rw [← l.u]; exact h
  | .ext, _, h => by unfold Hd at h ⊢; exact h
  | .cell p r, c, h => by rw [noc] at c; cases c
theorem Hds.less {w0 w : W} (l : Less w0 w) {H : Hp} {vs : List V} : ∀ {ds : List D}, nocL ds = true → Hds w H vs ds → Hds w0 H vs ds
  | [], _, h => by unfold Hds at h ⊢; exact h
  | d :: ds, c, h => by
    rw [nocL, Bool.and_eq_true] at c
    unfold Hds at h ⊢
    obtain ⟨x, xs, e, h1, h2⟩ := h
    exact ⟨x, xs, e, Hd.less l c.1 h1, Hds.less l c.2 h2⟩
end
/-- a cell as a list again -/
def rel : D → D
  | .cell _ l => .lst l
  | d => d
/-- may be handed out: no cell in it, or a cell of this def's own -/
def Rlv (nw : Addr → Prop) (d : D) : Prop := noc d = true ∨ ∃ p l, d = .cell p l ∧ nw p ∧ nocL l = true
/-- what stands as it is, whatever is filled: no cell in it, or another cell that holds no cell -/
def Apart (p : Addr) (d : D) : Prop := noc d = true ∨ ∃ q l, d = .cell q l ∧ q ≠ p ∧ nocL l = true

/-- the judgement inside a def: w0, H0 what the def began with; nw the addresses that were free then -/
structure Mw (w0 : W) (H0 : Hp) (nw : Addr → Prop) (w : W) : Prop where
  l : Less w0 w
  new : ∀ p, nw p ↔ H0 p = none
  av : ∀ p, nw p → ¬ w0.av p
def Mn (w0 : W) (H0 : Hp) (w : W) (H : Hp) (nx : Env → Nat → Prop) (Q : L2.St → Hp → Prop) : Prop := ∀ σ' env' m' H', Fr w0 H0 H' → Frx w H H' → (∀ b, H' b = none → H b = none) → UI w m' H' → Sls w H' σ' env' → nx env' m' → Q σ' H'
def Mr (w0 : W) (H0 : Hp) (rt : D → Nat → Prop) (Q : VK) : Prop := ∀ v d m' H', Fr w0 H0 H' → UI w0 m' H' → Hd w0 H' v d → rt d m' → Q v H'
abbrev DM := (Addr → Prop) → DS
structure Dm1 (X : Cx) (st : Stmt) (t : DM) : Prop where
  run : ∀ w0 H0 w nw σ H env m nx rt (Dn : Ends), Mw w0 H0 nw w → Fr w0 H0 H → Sls w H σ env → UI w m H → t nw nx rt env m → Mn w0 H0 w H nx Dn.nx → Mr w0 H0 rt Dn.rt → wpS X st Dn σ H
structure Dm (X : Cx) (sts : List Stmt) (t : DM) : Prop where
  run : ∀ w0 H0 w nw σ H env m nx rt (Dn : Ends), Mw w0 H0 nw w → Fr w0 H0 H → Sls w H σ env → UI w m H → t nw nx rt env m → Mn w0 H0 w H nx Dn.nx → Mr w0 H0 rt Dn.rt → wpSs X sts Dn σ H
theorem Fr.free {w : W} {H H' : Hp} {m : Nat} (f : Fr w H H') (u : UI w m H') {b : Addr} (e : H' b = none) : H b = none := by
  cases q : H b with
  | none => rfl
  | some o =>
    by_cases h : w.u = some b
    · obtain ⟨x, y, z, e', _⟩ := u.1 b h
      rw [e] at e'; cases e'
    · rw [f b o h q] at e; cases e
theorem UI.lessW {w0 w : W} (l : Less w0 w) {m : Nat} {H : Hp} (h : UI w m H) : UI w0 m H := ⟨fun a e => h.1 a (by rw [l.u]; exact e), fun a ha => h.2 a (l.ex _ ha)⟩
theorem Fr.lessW {w0 w : W} (l : Less w0 w) {H H' : Hp} (f : Fr w H H') : Fr w0 H H' := fun b o n e => f b o (by rw [l.u]; exact n) e
theorem Mn.from {w0 w : W} {H0 H H1 : Hp} {nx : Env → Nat → Prop} {Q : L2.St → Hp → Prop} (c : Mn w0 H0 w H nx Q) (fx : Frx w H H1) (fr : ∀ b, H1 b = none → H b = none) : Mn w0 H0 w H1 nx Q :=
  fun σ' env' m' H' f fx2 fr2 => c σ' env' m' H' f (fx.trans fx2) fun b e => fr b (fr2 b e)
section
variable {X : Cx} {st : Stmt} {sts rest : List Stmt} {t u : DS} {tm um : DM} {pos : Pos}
def dmL (t : DS) : DM := fun _ nx rt => t nx fun d m => noc d = true ∧ rt d m
theorem dm_lift (h : Ds X st t) : Dm1 X st (dmL t) := by
  refine ⟨fun w0 H0 w nw σ H env m nx rt Dn W f sl hu q c r => ?_⟩
  refine h.run w σ H env m _ _ Dn sl hu q (fun σ1 env1 m1 H1 f1 u1 s1 q1 => ?_) fun v d m1 H1 f1 u1 h1 ⟨n1, q1⟩ => ?_
  · exact c _ _ _ _ (f.trans (f1.lessW W.l)) f1.x (fun b e => f1.free u1 e) u1 s1 q1
  · exact r _ _ _ _ (f.trans (f1.lessW W.l)) (u1.lessW W.l) (h1.less W.l n1) q1
def dmNext : DM := fun _ nx _ env m => nx env m
theorem dm_nil : Dm X [] dmNext := ⟨fun w0 H0 w nw σ H env m nx rt Dn W f sl hu q c r => wpSs_of pss_nil (c _ _ _ _ f (Frx.refl _ _) (fun _ e => e) hu sl q)⟩
def dmSeq (t u : DM) : DM := fun nw nx rt env m => t nw (fun env1 m1 => u nw nx rt env1 m1) rt env m
theorem dm_cons (h1 : Dm1 X st tm) (h2 : Dm X rest um) : Dm X (st :: rest) (dmSeq tm um) := by
  refine ⟨fun w0 H0 w nw σ H env m nx rt Dn W f sl hu q c r => wpSs_of (pss_cons ps_self pss_self) ?_⟩
  exact h1.run w0 H0 w nw σ H env m _ rt { Dn with nx := wpSs X rest Dn } W f sl hu q (fun σ1 env1 m1 H1 f1 fx1 fr1 u1 s1 q1 => h2.run w0 H0 w nw σ1 H1 env1 m1 nx rt Dn W f1 s1 u1 q1 (c.from fx1 fr1) r) r
theorem dm_one (h1 : Dm1 X st tm) : Dm X [st] tm := ⟨fun w0 H0 w nw σ H env m nx rt Dn W f sl hu q c r => wpSs_of (pss_one ps_self) (h1.run w0 H0 w nw σ H env m nx rt Dn W f sl hu q c r)⟩
def dmIf (c : DT) (t u : DM) : DM := fun nw nx rt env m => c env m fun b m1 => if b = true then t nw nx rt env m1 else u nw nx rt env m1
theorem dm_if {c : Expr} {tc : DT} {a b : List Stmt} (hc : Dt X c tc) (ha : Dm X a tm) (hb : Dm X b um) : Dm1 X (.If c a b pos) (dmIf tc tm um) := by
  refine ⟨fun w0 H0 w nw σ H env m nx rt Dn W f sl hu q k r => wpS_of (ps_if pt_self pss_self pss_self) ?_⟩
  refine hc.run w σ H env m _ _ sl hu q fun b m1 H1 f1 u1 q1 => ?_
  have k1 := k.from f1.x (fun b e => f1.free u1 e)
  have f2 := f.trans (f1.lessW W.l)
  cases b with
  | true => exact iteT (ha.run w0 H0 w nw σ H1 env m1 nx rt Dn W f2 (sl.fr f1) u1 (by simpa using q1) k1 r)
  | false => exact iteF (hb.run w0 H0 w nw σ H1 env m1 nx rt Dn W f2 (sl.fr f1) u1 (by simpa using q1) k1 r)
def dmFor (ti : DI) (dg : DG) (db : DM) : DM := fun nw nx rt env m => ti env m fun ds m1 => nocL ds = true ∧ ∃ P : Nat → Env → Nat → Prop, P 0 env m1 ∧
  (∀ i d env mm, ds[i]? = some d → P i env mm → dg d env fun env2 => db nw (fun env3 m3 => P (i + 1) env3 m3) rt env2 mm) ∧ ∀ env mm, P ds.length env mm → nx env mm
theorem dm_for {tg iter : Expr} {body : List Stmt} {is : List Nat} {ti : DI} {dg : DG} {db : DM} (hp : PassesOwn (model X.prog X.w) X.A X.env X.xe) (hc : X.calm = true) (hi : Di X tg iter ti) (hg : Dg X tg is dg) (hb : Dm X body db)
    (hs : ∀ x, foldedSetIterable iter X.env x = pure x := by intro _; rfl) : Dm1 X (.For tg iter body [] pos) (dmFor ti dg db) := by
  refine ⟨fun w0 H0 w nw σ H env m nx rt Dn W f sl hu q c r => wpS_of (ps_for hp hc pi_self pg_self pss_self hs) ?_⟩
  refine hi.run w σ H env m _ _ sl hu q fun J ds m1 H1 f1 u1 hw q1 => ?_
  obtain ⟨nc, P, p0, step, fin⟩ := q1
  obtain ⟨G, Y, wk, ww⟩ := hw.wk
  have c1 := c.from f1.x (fun b e => f1.free u1 e)
  refine for_it wk (fun i σ2 H2 => ∃ env2 mm, P i env2 mm ∧ Sls w H2 σ2 env2 ∧ UI w mm H2 ∧ Fr w0 H0 H2 ∧ Frx w H1 H2 ∧ ∀ b, H2 b = none → H1 b = none) ⟨env, m1, p0, sl.fr f1, u1, f.trans (f1.lessW W.l), Frx.refl _ _, fun _ e => e⟩ (fun i σ2 H2 hi2 ⟨env2, mm, hp2, s2, hu2, hf, hx, hd⟩ => (ww w (Gr.refl _ _) H2 (.inr ⟨nc, hx⟩)).1) (fun i x σ2 H2 H3 hlt ⟨env2, mm, hp2, s2, hu2, hf, hx, hd⟩ y => ?_) fun σ2 H2 ⟨env2, mm, hp2, s2, hu2, hf, hx, hd⟩ => ?_
  · obtain ⟨fy, uy, free, d, ed, hxd⟩ := (ww w (Gr.refl _ _) H2 (.inr ⟨nc, hx⟩)).2 i x H3 mm hlt hu2 y
    refine hg.run w σ2 H3 env2 mm x d _ _ (s2.fr fy) uy hxd (step i d env2 mm ed hp2) fun σ3 env3 s3 _ q3 => ?_
    exact hb.run w0 H0 w nw σ3 H3 env3 mm _ rt _ W (hf.trans (fy.lessW W.l)) s3 uy q3 (fun σ4 env4 m4 H4 f4 fx4 fr4 u4 s4 q4 => ⟨env4, m4, q4, s4, u4, f4, hx.trans (fy.x.trans fx4), fun b e => hd b (free b (fr4 b e))⟩) r
  · exact c1 _ _ _ _ hf hx hd hu2 s2 (fin env2 mm hp2)

/-! ### a cell is filled -/
def SepL (p : Addr) : Env → Prop
  | [] => True
  | none :: r => SepL p r
  | some d :: r => Apart p d ∧ SepL p r
theorem SepL.at {p : Addr} : ∀ {env : Env} {j : Nat} {d : D}, SepL p env → env[j]? = some (some d) → Apart p d
  | none :: r, 0, d, h, e => by simp at e
  | some x :: r, 0, d, h, e => by simp at e; rw [← e]; exact h.1
  | none :: r, j + 1, d, h, e => SepL.at (env := r) (j := j) h (by simpa using e)
  | some x :: r, j + 1, d, h, e => SepL.at (env := r) (j := j) h.2 (by simpa using e)
theorem cell_fill {w : W} {H : Hp} {σ : L2.St} {env : Env} {i : Nat} {p : Addr} {l l' : List D} {vs' : List V} (sl : Sls w H σ env) (e : env[i]? = some (some (.cell p l))) (sep : SepL p (env.set i none)) (nl : nocL l' = true) (h' : Hds w H vs' l') :
    Sls w (upd H p (.lst vs')) σ (env.set i (some (.cell p l'))) := by
  obtain ⟨v, ev, hv⟩ := sl.2 i _ e
  rw [Hd.cell] at hv
  obtain ⟨rfl, mc, nu, vs, hp, hvs⟩ := hv
  have fx : Frx w H (upd H p (.lst vs')) := fun b o n e => by rw [upd_ne (fun z => n (by rw [z]; exact .inr (w.sub _ mc)))]; exact e
  refine ⟨by rw [List.length_set]; exact sl.1, fun j d q => ?_⟩
  by_cases hij : i = j
  · subst hij
    have hl : i < env.length := (List.getElem?_eq_some_iff.mp e).1
    rw [List.getElem?_set_self hl] at q
    cases q
    exact ⟨_, ev, Hd.cell.mpr ⟨rfl, mc, nu, vs', upd_same, h'.frx fx nl⟩⟩
  · have q2 : (env.set i none)[j]? = some (some d) := by rw [List.getElem?_set_ne hij]; rw [List.getElem?_set_ne hij] at q; exact q
    rw [List.getElem?_set_ne hij] at q
    obtain ⟨u, e1, h1⟩ := sl.2 j d q
    refine ⟨u, e1, ?_⟩
    rcases sep.at q2 with n | ⟨r, k, rfl, ne, n⟩
    · exact h1.frx fx n
    · rw [Hd.cell] at h1 ⊢
      obtain ⟨rfl, mc2, nu2, us, hq, hus⟩ := h1
      exact ⟨rfl, mc2, nu2, us, by rw [upd_ne ne]; exact hq, hus.frx fx n⟩
/-- x.append(e) -/
def dmApp (i : Nat) (te : DE) : DM := fun nw nx _ env m => ∃ p l, env[i]? = some (some (.cell p l)) ∧ nw p ∧ te env m fun y m1 => noc y = true ∧ nocL l = true ∧ l.length < sizeLine ∧ SepL p (env.set i none) ∧ nx (env.set i (some (.cell p (l ++ [y])))) m1
theorem dm_app {i : Nat} {x : Str} {e : Expr} {te : DE} {px apos cpos : Pos} (hv : De X (.Name x px) (dVar i)) (he : De X e te)
    (hbase : attributeBase (.Name x px) "append" X.env (eval (.Name x px) X.env) = eval (.Name x px) X.env := by rfl)
    (hfew : ((backTo cpos (starEach [e] X.env)).all (fun x => !x.1) && (backToKw cpos (keywordEach [] X.env)).all (fun x => x.1.isSome)
      && decide (([e] : List Expr).length + ([] : List Keyword).length + (if ([] : List Keyword).isEmpty then 0 else 1) < 30)) = true := by rfl)
    (hline : (apos.endLine == cpos.line) = true := by rfl) (hs : starEach [e] X.env = (false, eval e X.env) :: starEach [] X.env := by rfl) (hplain : (backTo cpos (starEach [] X.env)).any (·.1) = false := by rfl)
    (hsw : swapsWith (.Call (.Attribute (.Name x px) "append" apos) [e] [] cpos) none pos.line X.env = pure false := by rfl) :
    Dm1 X (.Expr (.Call (.Attribute (.Name x px) "append" apos) [e] [] cpos) pos) (dmApp i te) := by
  refine ⟨fun w0 H0 w nw σ H env m nx rt Dn W f sl hu q c r => wpS_of (ps_expr (pe_bm PySem.F.plainAttrs_list PySem.F.slot_list_append PySem.F.type_list_append mt_append pe_self (pa_cons pe_self pa_nil hs) hbase hfew hline hs hplain) hsw) ?_⟩
  obtain ⟨p, l, e0, hnw, q⟩ := q
  refine hv.run w σ H env m (fun d mm => d = .cell p l ∧ mm = m) _ sl hu ⟨_, e0, rfl, rfl⟩ fun v d m1 H1 f1 u1 h1 q1 => ?_
  obtain ⟨rfl, rfl⟩ := q1
  rw [Hd.cell] at h1
  obtain ⟨rfl, mc, nu, vs, hp, hvs⟩ := h1
  refine ⟨.inl ⟨rfl, vs, SqL.of hp⟩, ?_⟩
  refine he.run w σ H1 env m1 _ _ (sl.fr f1) u1 q fun y dy m2 H2 f2 u2 h2 q2 => ?_
  obtain ⟨ny, nl, hlen, sep, q3⟩ := q2
  have fr := f1.trans f2
  have hp2 : H2 p = some (.lst vs) := f2 _ _ nu hp
  have hvs2 := hvs.fr f2
  refine ⟨p, vs, y, rfl, rfl, hp2, by rw [hvs.len]; exact hlen, ?_⟩
  have mex := w.sub _ mc
  refine c _ _ m2 _ (fun b o nb e => ?_) (fun b o nb e => ?_) (fun b e => ?_) (u2.put mex nu) (cell_fill (sl.fr fr) e0 sep (nocL_app nl (by rw [nocL, ny]; rfl)) (hvs2.app (.cons h2 .nil))) q3
  · rw [upd_ne (ne_of_none e ((W.new p).1 hnw))]
    exact (f.trans (fr.lessW W.l)) b o nb e
  · rw [upd_ne (fun z => nb (by rw [z]; exact .inr mex))]
    exact fr.x b o nb e
  · by_cases hb : b = p
    · rw [hb, upd_same] at e; cases e
    · rw [upd_ne hb] at e
      exact fr.free u2 e

/-! ### a def's own row of statements -/
def Me (w0 : W) (H0 : Hp) (nx : Env → Nat → Prop) (Q : L2.St → Hp → Prop) : Prop := ∀ σ' env' m' H', Fr w0 H0 H' → UI w0 m' H' → nx env' m' → Q σ' H'
structure DmT (X : Cx) (sts : List Stmt) (t : DM) : Prop where
  run : ∀ w0 H0 w nw σ H env m nx rt (Dn : Ends), Mw w0 H0 nw w → Fr w0 H0 H → Sls w H σ env → UI w m H → t nw nx rt env m → Me w0 H0 nx Dn.nx → Mr w0 H0 rt Dn.rt → wpSs X sts Dn σ H
theorem dmT_of (h : Dm X sts tm) : DmT X sts tm := ⟨fun w0 H0 w nw σ H env m nx rt Dn W f sl hu q c r => h.run w0 H0 w nw σ H env m nx rt Dn W f sl hu q (fun σ1 env1 m1 H1 f1 _ _ u1 _ q1 => c σ1 env1 m1 H1 f1 (u1.lessW W.l) q1) r⟩
theorem dmT_one (h : Dm1 X st tm) : DmT X [st] tm := dmT_of (dm_one h)
theorem dmT_cons (h1 : Dm1 X st tm) (h2 : DmT X rest um) : DmT X (st :: rest) (dmSeq tm um) := by
  refine ⟨fun w0 H0 w nw σ H env m nx rt Dn W f sl hu q c r => wpSs_of (pss_cons ps_self pss_self) ?_⟩
  exact h1.run w0 H0 w nw σ H env m _ rt { Dn with nx := wpSs X rest Dn } W f sl hu q (fun σ1 env1 m1 H1 f1 fx1 fr1 u1 s1 q1 => h2.run w0 H0 w nw σ1 H1 env1 m1 nx rt Dn W f1 s1 u1 q1 c r) r
/-- x = [..], filled later -/
def dmNew (i : Nat) (ta : DA) (u : DM) : DM := fun nw nx rt env m => ta env m fun ds m1 => nocL ds = true ∧ ds.length ≤ sizeLine ∧ ∀ p, nw p → (∀ (j : Nat) (q : Addr) (l : List D), env[j]? = some (some (.cell q l)) → q ≠ p) → u nw nx rt (env.set i (some (.cell p ds))) m1
theorem dmT_new {i : Nat} {x : Str} {es : List Expr} {ta : DA} {pos' lpos : Pos} (hN : X.N.Nodup) (ha : Da X es ta) (h : DmT X rest um) (hi : X.N[i]? = some x := by rfl) (hx : Loc X.env.scope x := by first | exact Or.inl rfl | exact Or.inr rfl) (hs : swapsWith (.List es lpos) (some (.Name x pos')) pos.line X.env = pure false := by rfl)
    (hf : X.fn x = true ∨ X.env.scope.names.lookup x = some .local := by first | exact .inl rfl | exact .inr rfl | assumption) : DmT X (.Assign [.Name x pos'] (.List es lpos) pos :: rest) (dmNew i ta um) := by
  refine ⟨fun w0 H0 w nw σ H env m nx rt Dn W f sl hu q c r => wpSs_of (pss_cons (ps_set hN hi hx (pe_lst pa_self) hs hf) pss_self) ?_⟩
  refine ha.run w σ H env m _ _ sl hu q fun vs ds m1 H1 f1 u1 h1 q1 => ?_
  obtain ⟨nc, hz, q1⟩ := q1
  refine ⟨by rw [h1.len]; exact hz, fun p hp => ?_⟩
  have fr0 := f.trans (f1.lessW W.l)
  have np : nw p := (W.new p).2 (fr0.free (u1.lessW W.l) hp)
  have nup : w.u ≠ some p := fun z => by
    obtain ⟨x, y, z, e', _⟩ := u1.1 p z
    rw [hp] at e'; cases e'
  have q2 := q1 p np fun j k l e => by
    obtain ⟨v, _, hv⟩ := (sl.fr f1).2 j _ e
    rw [Hd.cell] at hv
    obtain ⟨_, _, _, us, hk, _⟩ := hv
    exact ne_of_none hk hp
  let w2 : TC.W := ⟨w.u, p :: w.ex, p :: w.ce, fun a h => (List.mem_cons.mp h).elim (fun e => by rw [e]; exact List.mem_cons_self ..) fun e => List.mem_cons_of_mem _ (w.sub a e)⟩
  have gr : Gr w w2 H1 := ⟨rfl, fun a ha => List.mem_cons_of_mem _ ha, fun a ha => by
    rcases List.mem_cons.mp ha with rfl | ha
    · exact .inr hp
    · exact .inl ha, fun a ha => List.mem_cons_of_mem _ ha⟩
  have u2 : UI w2 m1 (upd H1 p (.lst vs)) := ⟨fun b e => (u1.upd (o := .lst vs) hp).1 b e, fun b hb => by
    rcases List.mem_cons.mp hb with rfl | hb
    · exact ⟨_, upd_same⟩
    · exact (u1.upd (o := .lst vs) hp).2 b hb⟩
  refine h.run w0 H0 w2 nw _ _ _ m1 nx rt Dn ⟨⟨W.l.u, fun a ha => List.mem_cons_of_mem _ (W.l.ex a ha)⟩, W.new, W.av⟩ (fr0.trans (Fr.upd hp)) ?_ u2 q2 c r
  refine ((((sl.fr f1).grow gr).fr (Fr.upd hp)).set i ?_)
  rw [Hd.cell]
  exact ⟨rfl, List.mem_cons_self .., nup, vs, upd_same, (h1.grow gr).fr (Fr.upd hp)⟩
/-- the cells are lists again -/
def RelE (nw : Addr → Prop) : Env → Prop
  | [] => True
  | none :: r => RelE nw r
  | some d :: r => Rlv nw d ∧ RelE nw r
def relE : Env → Env := List.map (Option.map rel)
theorem RelE.at {nw : Addr → Prop} : ∀ {env : Env} {j : Nat} {d : D}, RelE nw env → env[j]? = some (some d) → Rlv nw d
  | none :: r, 0, d, h, e => by simp at e
  | some x :: r, 0, d, h, e => by simp at e; rw [← e]; exact h.1
  | none :: r, j + 1, d, h, e => RelE.at (env := r) (j := j) h (by simpa using e)
  | some x :: r, j + 1, d, h, e => RelE.at (env := r) (j := j) h.2 (by simpa using e)
theorem rel_noc {d : D} (h : noc d = true) : rel d = d := by cases d <;> first | rfl | (rw [noc] at h; cases h)
def dmRel (t : DM) : DM := fun nw nx rt env m => RelE nw env ∧ t nw nx rt (relE env) m
theorem dmT_rel (h : DmT X sts tm) : DmT X sts (dmRel tm) := by
  refine ⟨fun w0 H0 w nw σ H env m nx rt Dn W f sl hu q c r => ?_⟩
  refine h.run w0 H0 w0 nw σ H (relE env) m nx rt Dn ⟨⟨rfl, fun _ h => h⟩, W.new, W.av⟩ f ⟨by rw [relE, List.length_map]; exact sl.1, fun j d e => ?_⟩ (hu.lessW W.l) q.2 c r
  rw [relE, List.getElem?_map] at e
  cases e2 : env[j]? with
  | none => rw [e2] at e; cases e
  | some o =>
    cases o with
    | none => rw [e2] at e; cases e
    | some d2 =>
      rw [e2] at e
      cases e
      obtain ⟨v, e1, h1⟩ := sl.2 j _ e2
      refine ⟨v, e1, ?_⟩
      rcases q.1.at e2 with n | ⟨p, l, rfl, hn, n⟩
      · rw [rel_noc n]
        exact h1.less W.l n
      · rw [Hd.cell] at h1
        obtain ⟨rfl, mc, nu, vs, hp, hvs⟩ := h1
        exact Hd.lst.mpr ⟨p, vs, rfl, W.av p hn, hp, hvs.less W.l n⟩
end
section
variable {P : Program} {w : World} {K : PySem.W.Frag} {mg : Str → Option Value} {base : Heap}
/-- a def that fills lists, by its body -/
theorem fnM {x qual : Str} {st : Stmt} {f : Addr} {fd : FuncData} {N ps : List Str} {k : Nat} {sp : DSp} (F : Fun K x qual st f fd) (S : FnScope N ps (defScope st)) (len : ∀ ds m Q, sp ds m Q → ds.length = ps.length)
    (hbody : ∀ (cdv : Value) (A : Around) (outer : List PySem.Env) (s : Shared) (H : Hp) (E : XK) (ds : List D) (m : Nat) (Q' : D → Nat → Prop), Room k (A.deeper (envOfC qual (defScope st) s.heap.objs.size f cdv)) → sp ds m Q' →
      ∃ t, DmT (cxOf CX0 P w K mg base N qual (defScope st) f cdv A outer s H E).nox (defBody st) t ∧ ∀ nw, t nw (fun _ m => Q' .non m) Q' (envAt N ds) m) : FnOk P w K mg base CX0 (k + 1) f fd ps (spD sp) := by
  refine F.ok S (fun vs H Q E h => ?_) (fun cdv A outer s H vs Q E hr h => ?_)
  · obtain ⟨wd, ds, m, Q', hds, hu, hsp, _⟩ := h
    rw [hds.len]
    exact len _ _ _ hsp
  · obtain ⟨wd, ds, m, Q', hds, hu, hsp, c⟩ := h
    obtain ⟨t, ht, q⟩ := hbody cdv A outer s H E ds m Q' hr hsp
    refine ⟨_, pss_self, ht.run wd H wd (fun p => H p = none) _ H _ m _ _ _ ⟨⟨rfl, fun _ h => h⟩, fun _ => Iff.rfl, fun p hp => hu.new hp⟩ (Fr.refl _ _) (Sls.start hds N) hu (q _) (fun σ' env' m' H' f1 u1 q1 => ?_) fun v d m' H' f1 u1 h1 q1 => c v d m' H' f1 u1 h1 q1⟩
    exact c _ _ _ _ f1 u1 (Hd.non.mpr rfl) q1
end
end TC
namespace TC
open PySem PySem.Spec PyProof.Rows L2
variable [Cl]
section
variable {X : Cx} {e o : Expr} {es : List Expr} {te to : DE} {t : DA} {p pos apos : Pos}
def dgTup3 (i j k : Nat) : DG := fun d env Q => ∃ a b c, d = .tup [a, b, c] ∧ Q (((env.set i (some a)).set j (some b)).set k (some c))
theorem dg_tup3 {i j k : Nat} {x y z : Str} {px py pz : Pos} {kk : Nat} (hc : X.calm = true) (hN : X.N.Nodup) (hi : X.N[i]? = some x := by rfl) (hj : X.N[j]? = some y := by rfl) (hk : X.N[k]? = some z := by rfl)
    (hx : Loc X.env.scope x := by first | exact Or.inl rfl | exact Or.inr rfl) (hy : Loc X.env.scope y := by first | exact Or.inl rfl | exact Or.inr rfl) (hz : Loc X.env.scope z := by first | exact Or.inl rfl | exact Or.inr rfl)
    (hf : X.fn x = true ∨ X.env.scope.names.lookup x = some .local := by first | exact .inl rfl | exact .inr rfl | assumption) (hf2 : X.fn y = true ∨ X.env.scope.names.lookup y = some .local := by first | exact .inl rfl | exact .inr rfl | assumption) (hf3 : X.fn z = true ∨ X.env.scope.names.lookup z = some .local := by first | exact .inl rfl | exact .inr rfl | assumption)
    (hs1 : (assignEach [.Name x px, .Name y py, .Name z pz] X.env).map (·.2) = assign (.Name x px) X.env :: (assignEach [.Name y py, .Name z pz] X.env).map (·.2) := by rfl) (hs2 : (assignEach [.Name y py, .Name z pz] X.env).map (·.2) = assign (.Name y py) X.env :: (assignEach [.Name z pz] X.env).map (·.2) := by rfl)
    (hs3 : (assignEach [.Name z pz] X.env).map (·.2) = assign (.Name z pz) X.env :: (assignEach [] X.env).map (·.2) := by rfl)
    (hn : (assignEach [.Name x px, .Name y py, .Name z pz] X.env).length = 3 := by rfl) (hst : (assignEach [.Name x px, .Name y py, .Name z pz] X.env).findIdx? (·.1) = none := by rfl) :
    Dg X (.Tuple [.Name x px, .Name y py, .Name z pz] kk pos) [i, j, k] (dgTup3 i j k) := by
  refine ⟨fun w σ H env m v d Q' Q sl hu hd h c pins s u I r => (pg_tup hc (pgs_cons (pg_name hN hi hx hf) (pgs_cons (pg_name hN hj hy hf2) (pgs_cons (pg_name hN hk hz hf3) pgs_nil hs3) hs2) hs1) hn hst).run pins s σ H v u Q I r ?_⟩
  obtain ⟨a, b, d3, rfl, q⟩ := h
  rw [Hd.tup] at hd
  obtain ⟨p, vs, rfl, na, hp, hds⟩ := hd
  obtain ⟨v1, r1, rfl, h1, h2⟩ := hds.uncons
  obtain ⟨v2, r2, rfl, h3, h4⟩ := h2.uncons
  obtain ⟨v3, r3, rfl, h5, h6⟩ := h4.uncons
  cases h6.unnil
  refine ⟨p, _, rfl, SqT.of hp, rfl, v1, _, rfl, v2, _, rfl, v3, _, rfl, rfl, ?_⟩
  refine c _ _ (((sl.set i h1).set j h3).set k h5) (fun vs hvs => ?_) q
  rw [wipe_set (hvs k (by simp)), wipe_set (hvs j (by simp)), wipe_set (hvs i (by simp))]
def dPart (to te : DE) : DE := fun env m Q => to env m fun x m1 => ∃ a, x = .str a ∧ te env m1 fun y m2 => ∃ b, y = .str b ∧ (b.length == 0) = false ∧ a.length ≤ sizeLine ∧ Q (.tup [.str (Txt.partition a b).1, .str (Txt.partition a b).2.1, .str (Txt.partition a b).2.2]) m2
theorem de_partition (ho : De X o to) (he : De X e te) (hs : starEach [e] X.env = [(false, eval e X.env)] := by rfl) (hbase : attributeBase o "partition" X.env (eval o X.env) = eval o X.env := by rfl) (hline : (apos.endLine == pos.line) = true := by rfl) :
    De X (.Call (.Attribute o "partition" apos) [e] [] pos) (dPart to te) := by
  refine ⟨fun w σ H env m Q' Q sl hu h k => wp_of (pe_partition pe_self pe_self hs hbase hline) ?_⟩
  refine ho.run w σ H env m _ _ sl hu h fun v d m1 H1 f1 u1 h1 q1 => ?_
  obtain ⟨a, rfl, q1⟩ := q1
  rw [Hd.str] at h1; subst h1
  refine ⟨⟨a, rfl⟩, ?_⟩
  refine he.run w σ H1 env m1 _ _ (sl.fr f1) u1 q1 fun y dy m2 H2 f2 u2 h2 q2 => ?_
  obtain ⟨b, rfl, hb, ha, q⟩ := q2
  rw [Hd.str] at h2; subst h2
  refine ⟨a, b, rfl, rfl, hb, ha, fun p hp => ?_⟩
  exact k _ _ _ _ ((f1.trans f2).trans (Fr.upd hp)) (u2.upd hp) (new_tup u2 (.cons (Hd.str.mpr rfl) (.cons (Hd.str.mpr rfl) (.cons (Hd.str.mpr rfl) .nil))) hp) q
theorem hds_strs {w : W} {H : Hp} : ∀ l : List Str, Hds w H (l.map V.str) (l.map D.str)
  | [] => .nil
  | a :: l => .cons (Hd.str.mpr rfl) (hds_strs l)
def dSplit (to te : DE) : DE := fun env m Q => to env m fun x m1 => ∃ a, x = .str a ∧ te env m1 fun y m2 => ∃ b, y = .str b ∧ (b.length == 0) = false ∧ a.length + 2 ≤ sizeLine ∧ Q (.lst ((Txt.split a b).map D.str)) m2
theorem de_split (ho : De X o to) (he : De X e te) (hs : starEach [e] X.env = [(false, eval e X.env)] := by rfl) (hbase : attributeBase o "split" X.env (eval o X.env) = eval o X.env := by rfl) (hline : (apos.endLine == pos.line) = true := by rfl) :
    De X (.Call (.Attribute o "split" apos) [e] [] pos) (dSplit to te) := by
  refine ⟨fun w σ H env m Q' Q sl hu h k => wp_of (pe_split pe_self pe_self hs hbase hline) ?_⟩
  refine ho.run w σ H env m _ _ sl hu h fun v d m1 H1 f1 u1 h1 q1 => ?_
  obtain ⟨a, rfl, q1⟩ := q1
  rw [Hd.str] at h1; subst h1
  refine ⟨⟨a, rfl⟩, ?_⟩
  refine he.run w σ H1 env m1 _ _ (sl.fr f1) u1 q1 fun y dy m2 H2 f2 u2 h2 q2 => ?_
  obtain ⟨b, rfl, hb, ha, q⟩ := q2
  rw [Hd.str] at h2; subst h2
  refine ⟨a, b, rfl, rfl, hb, ha, fun p hp => ?_⟩
  exact k _ _ _ _ ((f1.trans f2).trans (Fr.upd hp)) (u2.upd hp) (new_lst u2 (hds_strs _) hp) q
/-- int of a number, a truth, a text -/
def intD (ds : List D) (m : Nat) (Q : D → Nat → Prop) : Prop := match ds with
  | [.int i] => Q (.int i) m
  | [.bl k] => Q (.int (if k then 1 else 0)) m
  | [.str z] => ∃ n, PySem.intText? z = some n ∧ z.length ≤ 640 ∧ Q (.int n) m
  | _ => False
theorem dc_intA : DCall X (.type "int") intD := by
  refine ⟨fun w H m vs ds Q' Q hu hs h c => ?_⟩
  unfold intD at h
  split at h
  · exact dc_int.run w H m vs _ Q' Q hu hs (.inl ⟨_, rfl, h⟩) c
  · exact dc_int.run w H m vs _ Q' Q hu hs (.inr ⟨_, rfl, h⟩) c
  · obtain ⟨n, hn, hl, q⟩ := h
    obtain ⟨v, xs, rfl, h1, h2⟩ := hs.uncons
    cases h2.unnil
    rw [Hd.str] at h1; subst h1
    exact wpC_of call_int_str ⟨_, n, rfl, hn, hl, c _ _ _ _ (Fr.refl _ _) hu (Hd.int.mpr rfl) q⟩
  · exact h.elim
end

/-! ### static methods -/
/-- C.m is a staticmethod: its record at p, its def at g -/
structure SMet (K : PySem.W.Frag) (C : Addr) (mc : Value) (m : Str) (p g : Addr) : Prop where
  at_ : PySem.W.findCls K (.ref C) mc m = some (.get (.builtin "staticmethod.__get__") (.ref p) .none (.ref C))
  rc : ∃ rest, PySem.W.recIn K p "staticmethod" = some (.ref g :: rest)
  kp : PySem.W.keepIn K (.ref g) = true
section
variable {X : Cx} {e : Expr} {es : List Expr} {t : DA} {p pos apos : Pos} {k : Nat} {C pA g : Addr} {mc : Value} {fd : FuncData} {ps : List Str} {sp : DSp} {x m : Str} {pl : Sem Bool}
theorem de_smeth (r : ClX.CRead X.K C mc) (c : SMet X.K C mc m pA g) (F : FnOk X.prog X.w X.K X.mg X.base CX0 k g fd ps (spD sp)) (hr : Room k X.A) (hm : X.mg x = some (.ref C)) (hb : Binds X.K fd ps []) (ha : Da X (e :: es) t) (hg : Gl X x := by rfl) (hdb : (x == ("__debug__" : Str)) = false := by decide)
    (he : starEach (e :: es) X.env = (false, eval e X.env) :: starEach es X.env := by rfl) (hpl : (backTo pos (starEach es X.env)).any (·.1) = false := by rfl)
    (ht : eval (.Call (.Attribute (.Name x p) m apos) (e :: es) [] pos) X.env = (do
      let ov ← eval (.Name x p) X.env
      standAt apos.atName
      let (f, first) ← holding [ov] (getMethod ov m pl)
      callWith pos f first (backTo pos (starEach (e :: es) X.env)) (backToKw pos (keywordEach [] X.env))) := by rfl) :
    De X (.Call (.Attribute (.Name x p) m apos) (e :: es) [] pos) (dCall sp t) := by
  refine ⟨fun w σ H env mm Q' Q sl hu h cc pins s I => ?_⟩
  obtain ⟨rest, hrc⟩ := c.rc
  refine PySem.W.methodCall_KW (pl := pl) (ld_glob I hg hm ?_ hdb) ht
  refine PySem.W.method_cls I.kIn r.ga (PySem.W.cls_bind I.kIn r.rd c.at_ (wpAny_call (PySem.W.sm_get (s := { s with toks := s.toks + 1 }) I.kIn hrc (PySem.W.handed_on rfl ?_))))
  refine PySem.W.callWith_K (h₀ := X.base) I.ok.mod.kin c.kp ?_ he hpl
  refine thn (ha.run w σ H env mm _ (fun vs H1 => spD sp vs H1 Q E0) sl hu h (fun vs ds m1 H1 f1 u1 h1 q1 => ?_) pos pins _ (I.tok _)) fun us s1 ⟨vs, H1, I1, r1, q1⟩ => ⟨I1.kIn, ?_⟩
  · exact ⟨w, ds, m1, _, h1, u1, q1, cc.from f1⟩
  · rw [← List.append_nil vs] at q1
    exact run_fn F hr hb .nil pass0 I1 r1 q1
end
end TC
namespace TC
open PySem PySem.Spec PyProof.Rows L2
variable [Cl]
/-! ### cells handed to a call that only reads them -/
mutual
/-- no list and no cell in it -/
def nolst : D → Bool
  | .lst _ => false
  | .cell _ _ => false
  | .tup l => nolstL l
  | .obj _ l => nolstL l
  | _ => true
def nolstL : List D → Bool
  | [] => true
  | d :: l => nolst d && nolstL l
end
/-- the addresses of the cells in the slots -/
def cellsE : Env → List Addr
  | [] => []
  | some (.cell p _) :: r => p :: cellsE r
  | _ :: r => cellsE r
def RelN : Env → Prop
  | [] => True
  | none :: r => RelN r
  | some (.cell _ l) :: r => nocL l = true ∧ RelN r
  | some d :: r => noc d = true ∧ RelN r
theorem cellsE_mem : ∀ {env : Env} {j : Nat} {p : Addr} {l : List D}, env[j]? = some (some (.cell p l)) → p ∈ cellsE env
  | [], j, p, l, e => by simp at e
  | none :: r, 0, p, l, e => by simp at e
  | some x :: r, 0, p, l, e => by simp at e; subst e; simp [cellsE]
  | none :: r, j + 1, p, l, e => by simpa [cellsE] using cellsE_mem (env := r) (j := j) (by simpa using e)
  | some x :: r, j + 1, p, l, e => by
    have h := cellsE_mem (env := r) (j := j) (by simpa using e)
    cases x <;> simp [cellsE, h]
theorem cellsE_of : ∀ {env : Env} {p : Addr}, p ∈ cellsE env → ∃ (j : Nat) (l : List D), env[j]? = some (some (.cell p l))
  | [], p, h => by simp [cellsE] at h
  | none :: r, p, h => by
    obtain ⟨j, l, e⟩ := cellsE_of (env := r) (by simpa [cellsE] using h)
    exact ⟨j + 1, l, by simpa using e⟩
  | some x :: r, p, h => by
    have tail : p ∈ cellsE r → ∃ (j : Nat) (l : List D), (some x :: r)[j]? = some (some (.cell p l)) := fun h => by
      obtain ⟨j, l, e⟩ := cellsE_of (env := r) h
      exact ⟨j + 1, l, by simpa using e⟩
    cases x with
    | cell q l =>
      rcases List.mem_cons.mp h with rfl | h
      · exact ⟨0, l, rfl⟩
      · exact tail h
    | _ => exact tail h
theorem RelN.at : ∀ {env : Env} {j : Nat} {d : D}, RelN env → env[j]? = some (some d) → noc d = true ∨ ∃ p l, d = .cell p l ∧ nocL l = true
  | none :: r, 0, d, h, e => by simp at e
  | some x :: r, 0, d, h, e => by
    simp at e
    subst e
    cases x with
    | cell q l => exact .inr ⟨q, l, rfl, h.1⟩
    | _ => exact .inl h.1
  | none :: r, j + 1, d, h, e => RelN.at (env := r) (j := j) h (by simpa using e)
  | some x :: r, j + 1, d, h, e => by
    have hr : RelN r := by cases x <;> exact h.2
    exact RelN.at (env := r) (j := j) hr (by simpa using e)
/-- the world without these cells -/
def W.cut (w : W) (ps : List Addr) : W := ⟨w.u, w.ex.filter (fun a => !decide (a ∈ ps)), w.ce.filter (fun a => !decide (a ∈ ps)), fun a h => by
  rw [List.mem_filter] at h ⊢
  exact ⟨w.sub a h.1, h.2⟩⟩
theorem W.cut_less (w : W) (ps : List Addr) : Less (w.cut ps) w := ⟨rfl, fun a h => (List.mem_filter.mp h).1⟩
mutual
/-- what holds without the cells holds with them, where no list is in it -/
theorem Hd.uncut {w : W} {ps : List Addr} {H : Hp} (hp : ∀ p ∈ ps, ∃ vs, H p = some (.lst vs)) {v : V} : ∀ {d : D}, nolst d = true → Hd (w.cut ps) H v d → Hd w H v d
  | .non, _, h => by unfold Hd at h ⊢; exact h
  | .bl b, _, h => by unfold Hd at h ⊢; exact h
  | .int i, _, h => by unfold Hd at h ⊢; exact h
  | .str s, _, h => by unfold Hd at h ⊢; exact h
  | .lst r, c, h => by rw [nolst] at c; cases c
  | .tup r, c, h => by
    rw [nolst] at c
    unfold Hd at h ⊢
    obtain ⟨a, vs, e, n, ha, hs⟩ := h
    refine ⟨a, vs, e, fun z => n ?_, ha, Hds.uncut hp c hs⟩
    rcases z with z | z
    · exact .inl z
    · refine .inr (List.mem_filter.mpr ⟨z, ?_⟩)
      rw [Bool.not_eq_true', decide_eq_false_iff_not]
      intro m
      obtain ⟨us, e2⟩ := hp a m
      rw [ha] at e2; cases e2
  | .obj k r, c, h => by
    rw [nolst] at c
    unfold Hd at h ⊢
    obtain ⟨a, dx, vs, e, n, n2, hd, ha, hs⟩ := h
    refine ⟨a, dx, vs, e, fun z => n ?_, fun z => n2 ?_, hd, ha, Hds.uncut hp c hs⟩
    · rcases z with z | z
      · exact .inl z
      · refine .inr (List.mem_filter.mpr ⟨z, ?_⟩)
        rw [Bool.not_eq_true', decide_eq_false_iff_not]
        intro m
        obtain ⟨us, e2⟩ := hp a m
        rw [ha] at e2; cases e2
    · rcases z with z | z
      · exact .inl z
      · refine .inr (List.mem_filter.mpr ⟨z, ?_⟩)
        rw [Bool.not_eq_true', decide_eq_false_iff_not]
        intro m
        obtain ⟨us, e2⟩ := hp dx m
        rw [hd] at e2; cases e2
  | .urn, _, h => by unfold Hd at h ⊢; exact h
  | .ext, _, h => by unfold Hd at h ⊢; exact h
  | .cell p r, c, h => by rw [nolst] at c; cases c
theorem Hds.uncut {w : W} {ps : List Addr} {H : Hp} (hp : ∀ p ∈ ps, ∃ vs, H p = some (.lst vs)) {vs : List V} : ∀ {ds : List D}, nolstL ds = true → Hds (w.cut ps) H vs ds → Hds w H vs ds
  | [], _, h => by unfold Hds at h ⊢; exact h
  | d :: ds, c, h => by
    rw [nolstL, Bool.and_eq_true] at c
    unfold Hds at h ⊢
    obtain ⟨x, xs, e, h1, h2⟩ := h
    exact ⟨x, xs, e, Hd.uncut hp c.1 h1, Hds.uncut hp c.2 h2⟩
end
/-! ### looks at slots that compute -/
def relNB : Env → Bool
  | [] => true
  | none :: r => relNB r
  | some (.cell _ l) :: r => nocL l && relNB r
  | some d :: r => noc d && relNB r
theorem relNB_ok : ∀ {env : Env}, relNB env = true → RelN env
  | [], _ => trivial
  | none :: r, h => relNB_ok (env := r) h
  | some d :: r, h => by
    cases d with
    | cell p l =>
      rw [relNB, Bool.and_eq_true] at h
      exact ⟨h.1, relNB_ok h.2⟩
    | _ =>
      simp only [relNB, Bool.and_eq_true] at h
      exact ⟨h.1, relNB_ok h.2⟩
theorem relE_of {nw : Addr → Prop} : ∀ {env : Env}, relNB env = true → (∀ q ∈ cellsE env, nw q) → RelE nw env
  | [], _, _ => trivial
  | none :: r, h, c => relE_of (env := r) h c
  | some d :: r, h, c => by
    cases d with
    | cell p l =>
      rw [relNB, Bool.and_eq_true] at h
      exact ⟨.inr ⟨p, l, rfl, c p (List.mem_cons_self ..), h.1⟩, relE_of h.2 fun q hq => c q (List.mem_cons_of_mem _ hq)⟩
    | _ =>
      simp only [relNB, Bool.and_eq_true] at h
      exact ⟨.inl h.1, relE_of h.2 c⟩
theorem sep_of {p : Addr} : ∀ {env : Env}, relNB env = true → (∀ q ∈ cellsE env, q ≠ p) → SepL p env
  | [], _, _ => trivial
  | none :: r, h, c => sep_of (env := r) h c
  | some d :: r, h, c => by
    cases d with
    | cell q l =>
      rw [relNB, Bool.and_eq_true] at h
      exact ⟨.inr ⟨q, l, rfl, c q (List.mem_cons_self ..), h.1⟩, sep_of h.2 fun q hq => c q (List.mem_cons_of_mem _ hq)⟩
    | _ =>
      simp only [relNB, Bool.and_eq_true] at h
      exact ⟨.inl h.1, sep_of h.2 c⟩
section
variable {X : Cx} {e : Expr} {te : DE}
/-- the cells are lists for e; what it gives has no list in it -/
def dRel (te : DE) : DE := fun env m Q => relNB env = true ∧ te (relE env) m fun d m1 => nolst d = true ∧ Q d m1
theorem de_rel (h : De X e te) : De X e (dRel te) := by
  refine ⟨fun w σ H env m Q' Q sl hu ⟨rn, q⟩ c => ?_⟩
  have rn := relNB_ok rn
  have hp : ∀ p ∈ cellsE env, (∃ vs, H p = some (.lst vs)) ∧ w.u ≠ some p := fun p hp => by
    obtain ⟨j, l, ej⟩ := cellsE_of hp
    obtain ⟨v, _, hv⟩ := sl.2 j _ ej
    rw [Hd.cell] at hv
    obtain ⟨_, _, nu, vs, hv, _⟩ := hv
    exact ⟨⟨vs, hv⟩, nu⟩
  have ls := w.cut_less (cellsE env)
  refine h.run (w.cut (cellsE env)) σ H (relE env) m _ _ ⟨by rw [relE, List.length_map]; exact sl.1, fun j d ej => ?_⟩ (hu.lessW ls) q fun v d m' H' f' u' h' ⟨nl, q'⟩ => ?_
  · rw [relE, List.getElem?_map] at ej
    cases e2 : env[j]? with
    | none => rw [e2] at ej; cases ej
    | some o =>
      cases o with
      | none => rw [e2] at ej; cases ej
      | some d2 =>
        rw [e2] at ej
        cases ej
        obtain ⟨v, e1, h1⟩ := sl.2 j _ e2
        refine ⟨v, e1, ?_⟩
        rcases rn.at e2 with n | ⟨p, l, rfl, n⟩
        · rw [rel_noc n]
          exact h1.less ls n
        · rw [Hd.cell] at h1
          obtain ⟨rfl, mc, nu, vs, hv, hvs⟩ := h1
          refine Hd.lst.mpr ⟨p, vs, rfl, fun z => ?_, hv, hvs.less ls n⟩
          rcases z with z | z
          · exact nu z
          · have := (List.mem_filter.mp z).2
            rw [Bool.not_eq_true', decide_eq_false_iff_not] at this
            exact this (cellsE_mem e2)
  · have fr : Fr w H H' := fun b o n e => f' b o n e
    refine c v d m' H' fr ⟨fun a e => u'.1 a e, fun a ha => ?_⟩ (h'.uncut (fun p m => ?_) nl) q'
    · obtain ⟨o, e⟩ := hu.2 a ha
      by_cases hm : w.u = some a
      · obtain ⟨x, y, z, e', _⟩ := u'.1 a hm
        exact ⟨_, e'⟩
      · exact ⟨o, fr a o hm e⟩
    · obtain ⟨⟨vs, e⟩, nu⟩ := hp p m
      exact ⟨vs, fr p _ nu e⟩
end
/-! ### an item of a cell is set -/
theorem Hds.setAt {w : W} {H : Hp} : ∀ {ds : List D} {vs : List V} (n : Nat) {v : V} {d : D}, Hds w H vs ds → Hd w H v d → Hds w H (vs.set n v) (ds.set n d)
  | [], vs, n, v, d, h, g => by rw [h.unnil]; exact .nil
  | e :: ds, vs, 0, v, d, h, g => by
    obtain ⟨x, xs, rfl, h1, h2⟩ := h.uncons
    exact .cons g h2
  | e :: ds, vs, n + 1, v, d, h, g => by
    obtain ⟨x, xs, rfl, h1, h2⟩ := h.uncons
    exact .cons h1 (h2.setAt n g)
theorem nocL_set {l : List D} {n : Nat} {d : D} (h : nocL l = true) (g : noc d = true) : nocL (l.set n d) = true := nocL_mem fun e he => by
  rcases List.mem_or_eq_of_mem_set he with h1 | h1
  · exact nocL_of h e h1
  · rw [h1]; exact g
/-- x[i] = e -/
def dmSetI (i : Nat) (te ti : DE) : DM := fun nw nx _ env m => te env m fun y m1 => ∃ p l, env[i]? = some (some (.cell p l)) ∧ nw p ∧ ti env m1 fun k m2 => ∃ z j, k = .int z ∧ ixN l.length z = some j ∧ noc y = true ∧ nocL l = true ∧ SepL p (env.set i none) ∧ nx (env.set i (some (.cell p (l.set j y)))) m2
theorem dm_seti {X : Cx} {i : Nat} {x : Str} {e ix : Expr} {te ti : DE} {px spos pos : Pos} (hv : De X (.Name x px) (dVar i)) (he : De X e te) (hi : De X ix ti)
    (ha : ∀ v, assign (.Subscript (.Name x px) ix spos) X.env v = (do
      let ov ← holding [v] (eval (.Name x px) X.env)
      let iv ← holding [v, ov] (eval ix X.env)
      standAt spos
      holding [v, ov, iv] (setItem ov iv v)
      release [v, ov, iv] []) := by intro _; rfl)
    (hs : swapsWithSole [.Subscript (.Name x px) ix spos] e pos.line X.env = pure false := by rfl) (hw : swappedStores [.Subscript (.Name x px) ix spos] e X.env = pure none := by rfl)
    (h1 : (assignEach [.Subscript (.Name x px) ix spos] X.env).map (·.2) = [assign (.Subscript (.Name x px) ix spos) X.env] := by rfl) :
    Dm1 X (.Assign [.Subscript (.Name x px) ix spos] e pos) (dmSetI i te ti) := by
  refine ⟨fun w0 H0 w nw σ H env m nx rt Dn W f sl hu q c r => wpS_of (ps_asg pe_self (pg_sub pe_self pe_self set_list ha) hs hw h1) ?_⟩
  refine he.run w σ H env m _ _ sl hu q fun y dy m1 H1 f1 u1 h1 q1 => ?_
  obtain ⟨p, l, e0, hnw, q1⟩ := q1
  refine hv.run w σ H1 env m1 (fun d mm => d = .cell p l ∧ mm = m1) _ (sl.fr f1) u1 ⟨_, e0, rfl, rfl⟩ fun v d m2 H2 f2 u2 h2 q2 => ?_
  obtain ⟨rfl, rfl⟩ := q2
  rw [Hd.cell] at h2
  obtain ⟨rfl, mc, nu, vs, hp, hvs⟩ := h2
  refine hi.run w σ H2 env m2 _ _ (sl.fr (f1.trans f2)) u2 q1 fun k dk m3 H3 f3 u3 h3 q3 => ?_
  obtain ⟨z, j, rfl, hj, ny, nl, sep, q3⟩ := q3
  rw [Hd.int] at h3
  subst h3
  have fr := f1.trans (f2.trans f3)
  have hp3 : H3 p = some (.lst vs) := f3 _ _ nu hp
  have hvs3 := hvs.fr f3
  refine ⟨p, vs, z, j, rfl, rfl, hp3, by rw [hvs.len]; exact hj, ?_⟩
  have mex := w.sub _ mc
  refine c _ _ m3 _ (fun b o nb e => ?_) (fun b o nb e => ?_) (fun b e => ?_) (u3.put mex nu) (cell_fill (sl.fr fr) e0 sep (nocL_set nl ny) (hvs3.setAt j (h1.fr (f2.trans f3)))) q3
  · rw [upd_ne (ne_of_none e ((W.new p).1 hnw))]
    exact (f.trans (fr.lessW W.l)) b o nb e
  · rw [upd_ne (fun z => nb (by rw [z]; exact .inr mex))]
    exact fr.x b o nb e
  · by_cases hb : b = p
    · rw [hb, upd_same] at e; cases e
    · rw [upd_ne hb] at e
      exact fr.free u3 e
/-! ### o(k = v), o an object whose class has a __call__ -/
theorem callO_withK {M : Model} {A : Around} {E : Value → Shared → Prop} {s : Shared} {a : Addr} {pos : Pos} {env : PySem.Env} {kws : List Keyword} {Q : Value → Shared → Prop}
    (hall : (backToKw pos (keywordEach kws env)).all (·.1.isSome) = true)
    (h : wpAny M A (evalAll ((backToKw pos (keywordEach kws env)).map (·.2))) (fun ks s₁ => (∃ C ox od, PySem.W.InstAt s₁.heap a ox C od ∧ ox.data = .plain) ∧ wpAny M A (call (.ref a) ([] ++ []) (((backToKw pos (keywordEach kws env)).filterMap (·.1)).zip ks)) Q E s₁) E s)
    (hpl : ((backTo pos (starEach [] env)).any (·.1) || (backToKw pos (keywordEach kws env)).any (·.1.isNone)) = false) :
    wpAny M A (callWith pos (.ref a) [] (backTo pos (starEach [] env)) (backToKw pos (keywordEach kws env))) Q E s := by
  unfold callWith
  refine wpAny_bind (wpAny_holding (wpAny_mono (evalArgs_kw2_nil (Q := fun z s₁ => (∃ C ox od, PySem.W.InstAt s₁.heap a ox C od ∧ ox.data = .plain) ∧ wpAny M A (call (.ref a) ([] ++ z.pos) z.kw) Q E s₁) hall h) (fun z s₁ h₁ => wpAny_bind (wpAny_standAt ?_)) fun _ _ y => y))
  obtain ⟨⟨C, ox, od, J, hd⟩, h₁⟩ := h₁
  have L := PySem.W.kco_keeper (M := M) J hd
  simp only [hpl]
  refine wpAny_bind (L.here ?_)
  have tail : ∀ {t : Sem Value}, wpAny M A t Q E s₁ → wpAny M A (t >>= fun r => holding [r] point >>= fun _ => pure r) Q E s₁ :=
    fun ht => wpAny_bind (wpAny_mono ht (fun r s₂ hr => wpAny_bind (wpAny_holding (wpAny_point (wpAny_pure hr)))) fun _ _ y => y)
  exact tail (wpAny_operateT h₁)
section
variable {X : Cx} {fe : Expr} {kws : List Keyword} {te : DE} {tk : DA} {pos : Pos} {k : Nat} {g : Addr} {fd : FuncData} {ps ks : List Str} {sp : DSp} {gB : List Value → List Value → List Value} {gV : List V → List V → List V} {gD : D → List D → List D}
theorem de_callOK (n : Nat) (hf : De X fe te) (c : StX.CallO X.K (Cl.c n).1 g) (F : FnOk X.prog X.w X.K X.mg X.base CX0 k g fd ps (spD sp)) (hr : Room k X.A) (hb : KBn X.K fd ps 1 ks gB gV)
    (hgD : ∀ w H v d vs ds, vs.length = ks.length → Hd w H v d → Hds w H vs ds → Hds w H (gV [v] vs) (gD d ds)) (hkw : Dk X kws tk)
    (ht : eval (.Call fe [] kws pos) X.env = (do callWith pos (← eval fe X.env) [] (backTo pos (starEach [] X.env)) (backToKw pos (keywordEach kws X.env))) := by rfl)
    (hall : (backToKw pos (keywordEach kws X.env)).all (·.1.isSome) = true := by rfl) (hks : (backToKw pos (keywordEach kws X.env)).filterMap (·.1) = ks := by rfl)
    (hpl : ((backTo pos (starEach [] X.env)).any (·.1) || (backToKw pos (keywordEach kws X.env)).any (·.1.isNone)) = false := by rfl) :
    De X (.Call fe [] kws pos) (fun env m Q => te env m fun d m1 => ∃ l, d = .obj n l ∧ tk env m1 fun ds m2 => ds.length = ks.length ∧ sp (gD (.obj n l) ds) m2 Q) := by
  refine ⟨fun w σ H env m Q' Q sl hu h kk pins s I => ?_⟩
  rw [ht]
  refine wpAny_bind (thn (hf.run w σ H env m _ (fun v H1 => ∃ (a dx : Addr) (vs : List V) (l : List D) (m1 : Nat), v = .ref a ∧ H1 a = some (.ins (Cl.c n).1 dx ((Cl.c n).2.zip vs)) ∧ Hd w H1 (.ref a) (.obj n l) ∧ Fr w H H1 ∧ UI w m1 H1 ∧ ¬ w.av a ∧ tk env m1 fun ds m2 => ds.length = ks.length ∧ sp (gD (.obj n l) ds) m2 Q') sl hu h (fun v d m1 H1 f1 u1 h1 q1 => ?_) pins s I) fun u s1 ⟨y, H1, I1, ry, a, dx, vs, l, m1, ey, hpp, ho, f1, u1, na, q1⟩ => ?_)
  · obtain ⟨l, rfl, q⟩ := q1
    have h2 := h1
    rw [Hd.obj] at h1
    obtain ⟨a, dx, vs, rfl, na, nd2, hd, hpp, hds⟩ := h1
    exact ⟨a, dx, vs, l, m1, rfl, hpp, h2, f1, u1, na, q⟩
  · subst ey
    obtain rfl : u = Value.ref a := ry
    refine callO_withK hall (thn (hkw.run w σ H1 env m1 _ (fun zs H2 => zs.length = ks.length ∧ (∃ vs', H2 a = some (.ins (Cl.c n).1 dx ((Cl.c n).2.zip vs'))) ∧ spD sp (gV [.ref a] zs) H2 Q E0) (sl.fr f1) u1 q1 (fun us ds m2 H2 f2 u2 h3 q3 => ?_) pos pins s1 I1) fun ws s2 ⟨zs, H2, I2, rz, l2, hi, q2⟩ => ?_) hpl
    · have hl : us.length = ks.length := h3.len.trans q3.1
      exact ⟨hl, ⟨vs, f2 _ _ (W.nu na) hpp⟩, w, gD (.obj n l) ds, m2, _, hgD w H2 _ _ us ds hl (ho.fr f2) h3, u2, q3.2, kk.from (f1.trans f2)⟩
    · obtain ⟨vs', hi⟩ := hi
      obtain ⟨ox, od, J, hd⟩ := StX.insC_at (C := (Cl.c n).1) I2 (.inr ⟨_, _, hi⟩)
      refine ⟨⟨_, ox, od, J, hd⟩, wpAny_call (PySem.W.kco_code I2.kIn J hd c.at_ c.fn c.fi ?_)⟩
      rw [hks]
      have r1 : Vals [V.ref a] [Value.ref a] := .cons rfl .nil
      have r2 := hb.rel r1 rz
      refine codeAny_mono (F.run X.A X.stack s2 H2 ⟨[.ref a], ks.zip ws⟩ (gB [.ref a] ws) (gV [.ref a] zs) Q E0 hr I2.env0 (hb.to s2 [.ref a] ws I2.kIn rfl (rz.length.symm.trans l2)) r2 q2) fun r s' hq => ?_
      cases r with
      | error e => exact (pass0 (X := X) pins σ H2 s2 e s' I2 hq)
      | ok fl =>
        cases fl with
        | ret u => exact I2.after hq
        | next => exact False.elim hq
        | brk => exact False.elim hq
        | cont => exact False.elim hq
end

/-! ### a comprehension, item by item -/
def runLc (dg : DG) (dt : DT) (de : DE) (env : Env) : List D → List D → Nat → (List D → Nat → Prop) → Prop
  | [], acc, m, Q => Q acc m
  | d :: ds, acc, m, Q => dg d env fun e => dt e m fun b m2 => if b = true then de e m2 fun y m3 => runLc dg dt de env ds (acc ++ [y]) m3 Q else runLc dg dt de env ds acc m2 Q
theorem lc_unroll {dg : DG} {dt : DT} {de : DE} {env : Env} {ds : List D} {m : Nat} {Q : List D → Nat → Prop} (h : runLc dg dt de env ds [] m Q) : lcIn dg dt de env ds m Q := by
  refine ⟨fun i acc mm => runLc dg dt de env (ds.drop i) acc mm Q, h, fun i d acc mm hd hp => ?_, fun acc mm hp => ?_⟩
  · obtain ⟨hi, e⟩ := List.getElem?_eq_some_iff.mp hd
    dsimp only at hp
    rw [List.drop_eq_getElem_cons hi, e] at hp
    exact hp
  · dsimp only at hp
    rw [List.drop_length] at hp
    exact hp
/-- the rest of a for, item by item -/
def runFor (dg : DG) (db : DS) (nx : Env → Nat → Prop) (rt : D → Nat → Prop) : List D → Env → Nat → Prop
  | [], env, m => nx env m
  | d :: ds, env, m => dg d env fun env2 => db (fun env3 m3 => runFor dg db nx rt ds env3 m3) rt env2 m
theorem for_unroll {dg : DG} {db : DS} {nx : Env → Nat → Prop} {rt : D → Nat → Prop} {ds : List D} {env : Env} {m : Nat} (h : runFor dg db nx rt ds env m) : forIn1 dg db nx rt ds env m := by
  refine ⟨fun i env mm => runFor dg db nx rt (ds.drop i) env mm, h, fun i d acc mm hd hp => ?_, fun acc mm hp => ?_⟩
  · obtain ⟨hi, e⟩ := List.getElem?_eq_some_iff.mp hd
    dsimp only at hp
    rw [List.drop_eq_getElem_cons hi, e] at hp
    exact hp
  · dsimp only at hp
    rw [List.drop_length] at hp
    exact hp
section
variable {K : PySem.W.Frag}
def apB (us ws : List Value) : List Value := us ++ ws
def apV (us ws : List V) : List V := us ++ ws
/-- f(a, k = b) -/
theorem kb_last {x qual : Str} {st : Stmt} {f : Addr} {fd : FuncData} {p1 p2 : Str} (F : Fun K x qual st f fd) (h : ∀ (kV doc pm : Value) (an : Option Addr) (cdv ct : Value) (a b : Value), bindArgs (PySem.W.fnOf x qual (defArgs st) (defBody st) (defScope st) .none kV doc pm an cdv ct) ⟨[a], [(p2, b)]⟩ = pure [(p1, a), (p2, b)]) : KBn K fd [p1, p2] 1 [p2] apB apV := by
  obtain ⟨oc, od, kV, doc, pm, an, cdv, ct, osl, rfl, lk, hcd⟩ := F.ex
  refine ⟨fun s us ws X l1 l2 => ?_, fun {vs us zs ws} r1 r2 => ?_⟩
  · match us, ws, l1, l2 with
    | [a], [b], _, _ => exact BindsTo.of_eq (h kV doc pm an cdv ct a b)
  · exact r1.append r2
end
end TC
namespace TC
open PySem PySem.Spec PyProof.Rows L2 RZ
variable [Cl]
def top (i : Nat) : Stmt := PySem.Challenge.pw_touchcaps_k07_what_rules_make.main.body.getD i (.Pass ⟨0, 0, 0, 0⟩)
/-- a def stands at f, called by this name, with these parameters -/
structure At (K : PySem.W.Frag) (mg : Str → Option Value) (x : Str) (st : Stmt) (ps : List Str) (f : Addr) (fd : FuncData) : Prop where
  fn : Fun K x x st f fd
  mg : mg x = some (.ref f)
  bd : Binds K fd ps []
/-- the built-ins stand as they were -/
structure Blt (mg : Str → Option Value) : Prop where
  tuple : mg "tuple" = none
  list : mg "list" = none
  int : mg "int" = none
  len : mg "len" = none
  abs : mg "abs" = none
  all : mg "all" = none
  max : mg "max" = none
  range : mg "range" = none
  zip : mg "zip" = none
  enumerate : mg "enumerate" = none
  isinstance : mg "isinstance" = none
  bool : mg "bool" = none
  str : mg "str" = none
  sorted : mg "sorted" = none
  set : mg "set" = none
  min : mg "min" = none
abbrev sTake : Stmt := top 36
section
variable {P : Program} {w : World} {K : PySem.W.Frag} {mg : Str → Option Value} {base : Heap}
def spTake : DSp := fun ds m Q => ∃ low m', ds = [.urn, .int low] ∧ 0 < low ∧ low < 100000000000000000000000000000000000000000 ∧ m = m' + 1 ∧ ∀ v, 0 ≤ v → v < low → Q (.int v) m'
theorem scTake : FnScope ["_law_urn", "_law_low_so", "_law_drawn", "_law_once", "_law_far", "_law_twice"] ["_law_urn", "_law_low_so"] (defScope sTake) := ⟨rfl, rfl, rfl, by decide +kernel, rfl, by decide +kernel, by decide +kernel⟩
theorem urn_write {w : W} {u : Addr} {H : Hp} {m m' : Nat} {x' y' z' : Int} (hu : w.u = some u) (U : UI w m H) (hz : 0 ≤ z') (hm : z' + m' ≤ MAXC) : UI w m' (upd H u (.lst [.int x', .int y', .int z'])) := by
  refine ⟨fun a e => ?_, fun a ha => ?_⟩
  · rw [hu] at e; cases e
    exact ⟨x', y', z', upd_same, hz, hm⟩
  · by_cases h : a = u
    · exact ⟨_, by rw [h, upd_same]⟩
    · obtain ⟨o, e⟩ := U.2 a ha
      exact ⟨o, by rw [upd_ne h]; exact e⟩
theorem ok_take {f : Addr} {fd : FuncData} (F : Fun K "_law_take" "_law_take" sTake f fd) (T : Blt mg) : FnOk P w K mg base CX0 1 f fd ["_law_urn", "_law_low_so"] (spD spTake) := by
  refine F.ok scTake (fun vs H Q E h => ?_) (fun cdv A outer s H vs Q E hr h => ?_)
  · obtain ⟨wd, ds, m, Q', hds, hu, ⟨low, m', rfl, _⟩, _⟩ := h
    rw [hds.len]; rfl
  · obtain ⟨wd, ds, m, Q', hds, hu, ⟨low, m', rfl, h0, h1, rfl, q⟩, c⟩ := h
    obtain ⟨v1, r1, rfl, k1, k2⟩ := hds.uncons
    obtain ⟨v2, r2, rfl, k3, k4⟩ := k2.uncons
    cases k4.unnil
    rw [Hd.int] at k3
    subst k3
    unfold Hd at k1
    obtain ⟨u, hwu, rfl⟩ := k1
    obtain ⟨x, y, z, hH, hz0, hzm⟩ := hu.1 u hwu
    have nd := scTake.nd
    refine ⟨_, pss_cons (ps_if (pt_cmpR op_gt (pe_ix ix_list (pv 0) pe_int (fun _ _ => rfl)) pe_int (nomark _))
        (pss_cons (ps_set (i := 2) nd rfl (Or.inl rfl) (pe_op op_mod (pe_callTy call_int1 (by rfl) T.int (by decide +kernel) (pa_cons (pe_ix ix_list (pv 0) pe_int (fun _ _ => rfl)) pa_nil)) (pv 1)))
        (pss_cons (ps_asg (pe_op op_fdivW (pe_ix ix_list (pv 0) pe_int (fun _ _ => rfl)) (pv 1)) (pg_sub (pv 0) pe_int set_list))
        (pss_one (ps_ret (pv 2))))) pss_nil)
      (pss_cons (ps_asg (pe_op op_add (pe_ix ix_list (pv 0) pe_int (fun _ _ => rfl)) pe_int) (pg_sub (pv 0) pe_int set_list))
      (pss_cons (ps_set (i := 3) nd rfl (Or.inl rfl) (pe_op op_mod (pe_callTy call_int1 (by rfl) T.int (by decide +kernel) (pa_cons (pe_op op_mul (pe_op op_add (pe_ix ix_list (pv 0) pe_int (fun _ _ => rfl)) (pe_op op_mul pe_int (pe_ix ix_list (pv 0) pe_int (fun _ _ => rfl)))) (pe_op op_add pe_int (pe_ix ix_list (pv 0) pe_int (fun _ _ => rfl)))) pa_nil)) pe_int))
      (pss_cons (ps_set (i := 4) nd rfl (Or.inl rfl) (pe_op op_add (pe_op op_mod (pe_callTy call_int1 (by rfl) T.int (by decide +kernel) (pa_cons (pv 3) pa_nil)) pe_int) pe_int))
      (pss_cons (ps_set (i := 5) nd rfl (Or.inl rfl) (pe_op op_mod (pe_callTy call_int1 (by rfl) T.int (by decide +kernel) (pa_cons (pe_op op_mul (pe_op op_add (pe_op op_add (pv 3) (pe_ix ix_list (pv 0) pe_int (fun _ _ => rfl))) (pe_op op_fdiv (pe_ix ix_list (pv 0) pe_int (fun _ _ => rfl)) pe_int)) (pv 4)) pa_nil)) pe_int))
      (pss_one (ps_ret (pe_op op_mod (pe_callTy call_int1 (by rfl) T.int (by decide +kernel) (pa_cons (pe_op op_fdiv (pe_op op_mod (pe_callTy call_int1 (by rfl) T.int (by decide +kernel) (pa_cons (pe_op op_add (pe_op op_mul (pv 5) pe_int) (pv 3)) pa_nil)) pe_int) pe_int) pa_nil)) (pv 1)))))))), ?_⟩
    refine ⟨_, rfl, u, _, _, _, rfl, rfl, SqL.of hH, rfl, _, _, rfl, rfl, _, rfl, ?_⟩
    refine ite2 (fun hx => ?_) (fun hx => ?_)
    · refine ⟨_, rfl, u, _, _, _, rfl, rfl, SqL.of hH, rfl, .inl ⟨_, rfl, _, rfl, _, _, rfl, rfl, h0, ?_⟩⟩
      refine ⟨_, rfl, u, _, _, _, rfl, rfl, SqL.of hH, rfl, _, rfl, _, _, rfl, rfl, wide_div (b := 200) h0 (by omega) (by decide) (by decide), ?_⟩
      refine ⟨_, rfl, u, _, _, 0, rfl, rfl, hH, rfl, ?_⟩
      refine ⟨_, rfl, ?_⟩
      exact c _ _ _ _ (Fr.write hwu) (urn_write hwu hu hz0 (by omega)) (Hd.int.mpr rfl) (q _ (Int.emod_nonneg _ (by omega)) (Int.emod_lt_of_pos _ h0))
    · refine ⟨_, rfl, u, _, _, _, rfl, rfl, SqL.of hH, rfl, _, _, rfl, rfl, ?_⟩
      refine ⟨_, rfl, u, _, _, 2, rfl, rfl, hH, rfl, ?_⟩
      have hH2 : upd H u (.lst ([V.int x, .int y, .int z].set 2 (.int (z + 1)))) u = some (.lst [.int x, .int y, .int (z + 1)]) := upd_same
      refine ⟨_, rfl, u, _, _, _, rfl, rfl, SqL.of hH2, rfl, _, rfl, u, _, _, _, rfl, rfl, SqL.of hH2, rfl, _, _, rfl, rfl, .inl (by decide), _, _, rfl, rfl, _, rfl, u, _, _, _, rfl, rfl, SqL.of hH2, rfl, _, _, rfl, rfl, _, _, rfl, rfl, .inr ?_, .inl ⟨_, rfl, _, _, rfl, rfl, (by show (0 : Int) < _; decide), ?_⟩⟩
      · have := hzm
        unfold MAXC at this
        exact ⟨by omega, by omega⟩
      · refine ⟨_, rfl, .inl ⟨_, rfl, _, _, rfl, rfl, (by show (0 : Int) < _; decide), _, _, rfl, rfl, ?_⟩⟩
        refine ⟨_, rfl, _, rfl, u, _, _, _, rfl, rfl, SqL.of hH2, rfl, _, _, rfl, rfl, _, rfl, u, _, _, _, rfl, rfl, SqL.of hH2, rfl, _, _, rfl, rfl, ⟨(by show (0 : Int) < _; decide), (by show _ < (2 : Int) ^ 30; decide)⟩, _, _, rfl, rfl, _, rfl, _, _, rfl, rfl, .inr ?_, .inl ⟨_, rfl, _, _, rfl, rfl, (by show (0 : Int) < _; decide), ?_⟩⟩
        · exact ⟨by omega, by omega⟩
        · refine ⟨_, rfl, _, _, rfl, rfl, .inr ⟨by decide, by decide⟩, _, rfl, _, _, rfl, rfl, .inl ⟨_, rfl, _, _, rfl, rfl, (by show (0 : Int) < _; decide), _, _, rfl, rfl, ⟨(by show (0 : Int) < _; decide), (by show _ < (2 : Int) ^ 30; decide)⟩, .inl ⟨_, rfl, _, rfl, _, _, rfl, rfl, h0, ?_⟩⟩⟩
          exact c _ _ _ _ (Fr.write hwu) (urn_write hwu hu (by omega) (by omega)) (Hd.int.mpr rfl) (q _ (Int.emod_nonneg _ (by omega)) (Int.emod_lt_of_pos _ h0))
end
end TC
namespace TC
open PySem PySem.Spec PyProof.Rows L2 RZ
variable [Cl]
abbrev sOf : Stmt := top 38
abbrev sSame : Stmt := top 39
abbrev sMixed : Stmt := top 40
abbrev sTags : Stmt := top 41
section
variable {P : Program} {w : World} {K : PySem.W.Frag} {mg : Str → Option Value} {base : Heap}
/-! ### one of some -/
def spOf : DSp := fun ds m Q => ∃ a l m', ds = [.urn, a] ∧ Sq a l ∧ 0 < l.length ∧ l.length < 2 ^ 30 ∧ m = m' + 1 ∧ ∀ d ∈ l, Q d m'
theorem scOf : FnScope ["_law_urn", "_law_some_so"] ["_law_urn", "_law_some_so"] (defScope sOf) := ⟨rfl, rfl, rfl, by decide +kernel, rfl, by decide +kernel, by decide +kernel⟩
theorem ok_of {f fT : Addr} {fd fdT : FuncData} (F : Fun K "_law_of" "_law_of" sOf f fd) (T : Blt mg) (A1 : At K mg "_law_take" sTake ["_law_urn", "_law_low_so"] fT fdT) : FnOk P w K mg base CX0 2 f fd ["_law_urn", "_law_some_so"] (spD spOf) := by
  refine fnD F scOf ?_ fun cdv A outer s H E ds m Q' hr h => ?_
  · rintro ds m Q ⟨a, l, m', rfl, _⟩
    rfl
  · obtain ⟨a, l, m', rfl, ha, h0, h1, rfl, q⟩ := h
    refine ⟨_, dss_one (ds_ret (de_ix (dv 1) (de_call (ok_take A1.fn T) hr A1.mg A1.fn.kp A1.bd (da_cons (dv 0) (da_cons (de_callB dc_len T.len (da_cons (dv 1) da_nil)) da_nil))))), ?_⟩
    dsimp only [dRet, dSet, dSeq, dCall, dCons, dNil, dTup, dLst, dIfS, dPar, dNext, dStar]
    refine ⟨_, rfl, _, rfl, _, rfl, l, by rcases ha with rfl | rfl <;> simp, ?_⟩
    refine ⟨_, m', rfl, by omega, by omega, rfl, fun v v0 v1 => ?_⟩
    obtain ⟨d, e, hm, _⟩ := atI_in v0 v1
    exact ⟨v, rfl, .inl ⟨l, d, ha.symm, e, q d hm⟩⟩
/-! ### the same data -/
mutual
def dep : D → Nat
  | .lst l => depL l + 1
  | .tup l => depL l + 1
  | _ => 0
def depL : List D → Nat
  | [] => 0
  | d :: l => max (dep d) (depL l)
end
mutual
def clean : D → Bool
  | .lst l => cleanL l
  | .tup l => cleanL l
  | .urn => false
  | .ext => false
  | .cell _ _ => false
  | .obj _ _ => false
  | _ => true
def cleanL : List D → Bool
  | [] => true
  | d :: l => clean d && cleanL l && decide (l.length < sizeLine)
end
theorem depL_mem : ∀ {l : List D} {d : D}, d ∈ l → dep d ≤ depL l
  | e :: l, d, h => by
    rw [depL]
    rcases List.mem_cons.mp h with rfl | h
    · omega
    · have := depL_mem h; omega
theorem cleanL_mem : ∀ {l : List D} {d : D}, cleanL l = true → d ∈ l → clean d = true
  | e :: l, d, c, h => by
    rw [cleanL] at c
    simp only [Bool.and_eq_true] at c
    rcases List.mem_cons.mp h with rfl | h
    · exact c.1.1
    · exact cleanL_mem c.1.2 h
theorem cleanL_len : ∀ {l : List D}, cleanL l = true → l.length ≤ sizeLine
  | [], _ => Nat.zero_le _
  | e :: l, c => by
    rw [cleanL] at c
    simp only [Bool.and_eq_true, decide_eq_true_eq] at c
    exact c.2
theorem clean_noUrn {d : D} (c : clean d = true) : noUrn d = true := by
  cases d <;> first | rfl | (rw [clean] at c; cases c)
def spSame (n : Nat) : DSp := fun ds m Q => ∃ d, ds = [d, d] ∧ dep d ≤ n ∧ clean d = true ∧ Q (.bl true) m
theorem scSame : FnScope ["_law_got", "_law_goal", "_law_mine_so", "_law_own"] ["_law_got", "_law_goal"] (defScope sSame) := ⟨rfl, rfl, rfl, by decide +kernel, rfl, by decide +kernel, by decide +kernel⟩
theorem dLc_tru {ti : DI} {dg : DG} {de : DE} {vs : List Nat} {env : Env} {m : Nat} {Q : D → Nat → Prop} (ds : List D) (hti : ∀ R : List D → Nat → Prop, R ds m → ti env m R) (hsz : ds.length ≤ sizeLine)
    (hs : ∀ d ∈ ds, ∀ mm (R : D → Nat → Prop), R (.bl true) mm → dg d (wipeE env vs) fun env2 => de env2 mm R)
    (q : Q (.lst ((List.replicate ds.length true).map D.bl)) m) : dLc ti dg dYes de vs env m Q := by
  refine hti _ ⟨hsz, fun k acc mm => mm = m ∧ acc = (List.replicate k true).map D.bl, ⟨rfl, rfl⟩, ?_, ?_⟩
  · rintro k d acc mm hd ⟨rfl, rfl⟩
    have := hs d (List.mem_of_getElem? hd) mm (fun y m3 => m3 = mm ∧ (List.replicate k true).map D.bl ++ [y] = (List.replicate (k + 1) true).map D.bl) ⟨rfl, by rw [List.replicate_succ']; simp⟩
    exact this
  · rintro acc mm ⟨rfl, rfl⟩
    exact q
theorem all_rep (n : Nat) : (List.replicate n true).all (fun b => b) = true := by
  rw [List.all_eq_true]
  intro b hb
  exact (List.mem_replicate.mp hb).2
theorem mem_pairs : ∀ {l : List D} {d : D}, d ∈ pairsD l l → ∃ e, e ∈ l ∧ d = .tup [e, e]
  | a :: l, d, h => by
    have h : d ∈ D.tup [a, a] :: pairsD l l := h
    rcases List.mem_cons.mp h with rfl | h
    · exact ⟨a, List.mem_cons_self .., rfl⟩
    · obtain ⟨e, he, r⟩ := mem_pairs h
      exact ⟨e, List.mem_cons_of_mem _ he, r⟩
theorem pairs_len (l : List D) : (pairsD l l).length = l.length := by simp [pairsD]
theorem scal_self {d : D} (h : flatD d = true) : scal (fv d) (fv d) = true := by
  cases d <;> first | rfl | (simp [flatD] at h)
theorem isD_ll (l : List D) : isD (.lst l) "list" = true := by show ("list" == "list") = true; decide
theorem isD_lt (l : List D) : isD (.lst l) "tuple" = false := by show ("list" == "tuple") = false; decide
theorem isD_tl (l : List D) : isD (.tup l) "list" = false := by show ("tuple" == "list") = false; decide
theorem isD_tt (l : List D) : isD (.tup l) "tuple" = true := by show ("tuple" == "tuple") = true; decide
theorem same_flat {f : Addr} (T : Blt mg) (cdv : Value) (A : Around) (outer : List PySem.Env) (s : Shared) (H : Hp) (E : XK) {d : D} {m : Nat} {Q' : D → Nat → Prop} (hf : flatD d = true) (q : Q' (.bl true) m) :
    ∃ t, Dss (cxOf CX0 P w K mg base ["_law_got", "_law_goal", "_law_mine_so", "_law_own"] "_law_same" (defScope sSame) f cdv A outer s H E).nox (defBody sSame) t ∧ t (fun _ m => Q' .non m) Q' (envAt ["_law_got", "_law_goal", "_law_mine_so", "_law_own"] [d, d]) m := by
  refine ⟨_, dss_cons (ds_if (dt_val (de_isi2 (a := "list") (b := "tuple") T.isinstance (dv 1) T.list T.tuple)) dss_never dss_nil)
    (dss_cons (ds_if (Dw.pt (dw_or (dt_isN (dv 1)) (dw_or1 (dt_val (de_isi2 (a := "bool") (b := "str") T.isinstance (dv 1) T.bool T.str)))))
      (dss_one (ds_ret (de_and (de_cmp do_eq (dv 0) (dv 1)) (de_and (de_cmp do_eq (de_isi (a := "bool") T.isinstance (dv 0) T.bool) (de_isi (a := "bool") T.isinstance (dv 1) T.bool)) (de_one (de_cmp do_eq (de_isN (dv 0)) (de_isN (dv 1)))))))) dss_nil)
    (dss_one (ds_ret (de_and (de_isi (a := "int") T.isinstance (dv 0) T.int) (de_and (de_not (de_isi (a := "bool") T.isinstance (dv 0) T.bool)) (de_one (de_cmp do_eq (dv 0) (dv 1)))))))), ?_⟩
  cases d with
  | lst l => cases hf
  | tup l => cases hf
  | urn => cases hf
  | ext => cases hf
  | cell p l => cases hf
  | obj c l => cases hf
  | non =>
    refine ⟨_, rfl, rfl, _, rfl, iteF ?_⟩
    refine ⟨_, rfl, _, rfl, iteT (iteT ?_)⟩
    refine ⟨_, rfl, _, rfl, rfl, rfl, rfl, _, rfl, iteT ?_⟩
    refine ⟨_, rfl, rfl, _, rfl, rfl, rfl, rfl, rfl, _, rfl, iteT ?_⟩
    exact ⟨_, rfl, _, rfl, rfl, rfl, rfl, q⟩
  | bl b =>
    refine ⟨_, rfl, rfl, _, rfl, iteF ?_⟩
    refine ⟨_, rfl, _, rfl, iteF ⟨_, rfl, rfl, _, rfl, iteT ?_⟩⟩
    refine ⟨_, rfl, _, rfl, rfl, rfl, rfl, true, congrArg D.bl (decide_eq_true rfl), iteT ?_⟩
    refine ⟨_, rfl, rfl, _, rfl, rfl, rfl, rfl, rfl, _, rfl, iteT ?_⟩
    exact ⟨_, rfl, _, rfl, rfl, rfl, rfl, q⟩
  | str z =>
    refine ⟨_, rfl, rfl, _, rfl, iteF ?_⟩
    refine ⟨_, rfl, _, rfl, iteF ⟨_, rfl, rfl, _, rfl, iteT ?_⟩⟩
    refine ⟨_, rfl, _, rfl, rfl, rfl, rfl, true, congrArg D.bl (decide_eq_true rfl), iteT ?_⟩
    refine ⟨_, rfl, rfl, _, rfl, rfl, rfl, rfl, rfl, _, rfl, iteT ?_⟩
    exact ⟨_, rfl, _, rfl, rfl, rfl, rfl, q⟩
  | int i =>
    refine ⟨_, rfl, rfl, _, rfl, iteF ?_⟩
    refine ⟨_, rfl, _, rfl, iteF ⟨_, rfl, rfl, _, rfl, iteF ?_⟩⟩
    refine ⟨_, rfl, rfl, _, rfl, iteT ⟨_, rfl, rfl, _, rfl, _, rfl, iteT ?_⟩⟩
    refine ⟨_, rfl, _, rfl, rfl, rfl, rfl, ?_⟩
    have e : (if false = true then !decide (fv (.int i) = fv (.int i)) else decide (fv (.int i) = fv (.int i))) = true := by simp
    rw [e]
    exact q
theorem same_seq {f : Addr} {fd : FuncData} (T : Blt mg) (F : At K mg "_law_same" sSame ["_law_got", "_law_goal"] f fd) {n : Nat} (ih : FnOk P w K mg base CX0 (n + 1) f fd ["_law_got", "_law_goal"] (spD (spSame n))) (cdv : Value) (A : Around) (outer : List PySem.Env) (s : Shared) (H : Hp) (E : XK) (hr : Room (n + 1) (A.deeper (envOfC "_law_same" (defScope sSame) s.heap.objs.size f cdv))) {d : D} {l : List D} {m : Nat} {Q' : D → Nat → Prop} (hs : Sq d l) (hd : dep d ≤ n + 1) (hc : clean d = true) (q : Q' (.bl true) m) :
    ∃ t, Dss (cxOf CX0 P w K mg base ["_law_got", "_law_goal", "_law_mine_so", "_law_own"] "_law_same" (defScope sSame) f cdv A outer s H E).nox (defBody sSame) t ∧ t (fun _ m => Q' .non m) Q' (envAt ["_law_got", "_law_goal", "_law_mine_so", "_law_own"] [d, d]) m := by
  have nd := scSame.nd
  have hcl : cleanL l = true := by rcases hs with rfl | rfl <;> (rw [clean] at hc; exact hc)
  have hdl : depL l ≤ n := by rcases hs with rfl | rfl <;> (rw [dep] at hd; omega)
  have el : ∀ d ∈ pairsD l l, ∀ mm (R : D → Nat → Prop), R (.bl true) mm → ∃ e, d = .tup [e, e] ∧ dep e ≤ n ∧ clean e = true := fun d hd mm R hR => by
    obtain ⟨e, he, r⟩ := mem_pairs hd
    exact ⟨e, r, Nat.le_trans (depL_mem he) hdl, cleanL_mem hcl he⟩
  refine ⟨_, dss_cons (ds_if (dt_val (de_isi2 (a := "list") (b := "tuple") T.isinstance (dv 1) T.list T.tuple))
      (dss_cons (ds_if (Dw.pt (dw_or (dt_cmp do_ne (de_isi (a := "list") T.isinstance (dv 0) T.list) (de_isi (a := "list") T.isinstance (dv 1) T.list)) (dw_or1 (dt_cmp do_ne (de_isi (a := "tuple") T.isinstance (dv 0) T.tuple) (de_isi (a := "tuple") T.isinstance (dv 1) T.tuple))))) dss_never dss_nil)
      (dss_one (ds_ret (de_and (de_cmp do_eq (de_callB dc_len T.len (da_cons (dv 0) da_nil)) (de_callB dc_len T.len (da_cons (dv 1) da_nil))) (de_one (de_callB (dc_all rfl) T.all (da_cons (de_lc (own := [("_law_mine_so", 2), ("_law_own", 3)]) rfl nd (di_zip T.zip (dv 0) (dv 1)) (blkOk_by (N := ["_law_got", "_law_goal", "_law_mine_so", "_law_own"]) (sc := defScope sSame) (by decide +kernel)) (fun _ _ _ _ _ => dg_tup2 (i := 2) (j := 3) rfl nd) (fun _ _ _ _ _ => dts_nil) (fun _ _ _ _ _ => de_call ih hr F.mg F.fn.kp F.bd (da_cons (dv 2) (da_cons (dv 3) da_nil)))) da_nil))))))) dss_nil)
    dss_never, ?_⟩
  rcases hs with rfl | rfl
  all_goals
    refine ⟨_, rfl, rfl, _, rfl, iteT ?_⟩
    refine ⟨_, rfl, rfl, _, rfl, rfl, rfl, rfl, rfl, _, rfl, iteF ⟨_, rfl, rfl, _, rfl, rfl, rfl, rfl, rfl, _, rfl, iteF ?_⟩⟩
    refine ⟨_, rfl, l, (by first | exact .inl rfl | exact .inr rfl), _, rfl, l, (by first | exact .inl rfl | exact .inr rfl), rfl, rfl, rfl, true, congrArg D.bl (decide_eq_true rfl), iteT ?_⟩
    dsimp only [dRet, dSet, dSeq, dCall, dCons, dNil, dTup, dLst, dIfS, dPar, dNext, dStar]
    refine dLc_tru (pairsD l l) (fun R hR => ⟨_, rfl, _, rfl, l, l, rfl, (by first | exact .inl ⟨rfl, rfl⟩ | exact .inr ⟨rfl, rfl⟩), hR⟩) (by rw [pairs_len]; exact cleanL_len hcl) (fun d hd mm R hR => ?_) ⟨List.replicate _ true, rfl, by rw [all_rep]; exact q⟩
    obtain ⟨e, rfl, h1, h2⟩ := el d hd mm R hR
    exact ⟨e, e, rfl, _, rfl, _, rfl, e, rfl, h1, h2, hR⟩
theorem flat_or {d : D} (h : clean d = true) : flatD d = true ∨ ∃ l, Sq d l := by
  cases d with
  | lst l => exact .inr ⟨l, .inr rfl⟩
  | tup l => exact .inr ⟨l, .inl rfl⟩
  | urn => rw [clean] at h; cases h
  | ext => rw [clean] at h; cases h
  | cell p l => rw [clean] at h; cases h
  | obj c l => rw [clean] at h; cases h
  | _ => exact .inl rfl
theorem ok_same {f : Addr} {fd : FuncData} (T : Blt mg) (F : At K mg "_law_same" sSame ["_law_got", "_law_goal"] f fd) : ∀ n, FnOk P w K mg base CX0 (n + 1) f fd ["_law_got", "_law_goal"] (spD (spSame n)) := by
  intro n
  induction n with
  | zero =>
    refine fnD F.fn scSame ?_ fun cdv A outer s H E ds m Q' hr h => ?_
    · rintro ds m Q ⟨d, rfl, _⟩
      rfl
    · obtain ⟨d, rfl, hd, hc, q⟩ := h
      rcases flat_or hc with hf | ⟨l, rfl | rfl⟩
      · exact same_flat T cdv A outer s H E hf q
      · rw [dep] at hd; omega
      · rw [dep] at hd; omega
  | succ n ih =>
    refine fnD F.fn scSame ?_ fun cdv A outer s H E ds m Q' hr h => ?_
    · rintro ds m Q ⟨d, rfl, _⟩
      rfl
    · obtain ⟨d, rfl, hd, hc, q⟩ := h
      rcases flat_or hc with hf | ⟨l, hl⟩
      · exact same_flat T cdv A outer s H E hf q
      · exact same_seq T F ih cdv A outer s H E hr hl hd hc q
end
end TC
namespace TC
open PySem PySem.Spec PyProof.Rows L2 RZ
variable [Cl]
theorem Hds.erase {w : W} {H : Hp} : ∀ {ds : List D} {vs : List V} (n : Nat), Hds w H vs ds → Hds w H (vs.eraseIdx n) (ds.eraseIdx n)
  | [], vs, n, h => by rw [h.unnil]; exact .nil
  | d :: ds, vs, 0, h => by
    obtain ⟨x, xs, rfl, h1, h2⟩ := h.uncons
    exact h2
  | d :: ds, vs, n + 1, h => by
    obtain ⟨x, xs, rfl, h1, h2⟩ := h.uncons
    exact .cons h1 (h2.erase n)
theorem erase_perm {α : Type} : ∀ (l : List α) {k : Nat} (h : k < l.length), (l[k] :: l.eraseIdx k).Perm l
  | a :: l, 0, h => .refl _
  | a :: l, k + 1, h => by
    have h' : k < l.length := by simpa using h
    show (l[k] :: a :: l.eraseIdx k).Perm (a :: l)
    exact (List.Perm.swap _ _ _).trans ((erase_perm l h').cons a)
section
variable {P : Program} {w : World} {K : PySem.W.Frag} {mg : Str → Option Value} {base : Heap}
def spMixed : DSp := fun ds m Q => ∃ a l m', ds = [.urn, a] ∧ Sq a l ∧ l.length ≤ 1000 ∧ m = m' + l.length ∧ ∀ l' : List D, l'.Perm l → Q (.lst l') m'
theorem scMixed : FnScope ["_law_urn", "_law_pool", "_law_rest_so", "_law_found", "_law_turn"] ["_law_urn", "_law_pool"] (defScope sMixed) := ⟨rfl, rfl, rfl, by decide +kernel, rfl, by decide +kernel, by decide +kernel⟩
theorem ok_mixed {f fT : Addr} {fd fdT : FuncData} (F : Fun K "_law_mixed" "_law_mixed" sMixed f fd) (T : Blt mg) (A1 : At K mg "_law_take" sTake ["_law_urn", "_law_low_so"] fT fdT) : FnOk P w K mg base CX0 2 f fd ["_law_urn", "_law_pool"] (spD spMixed) := by
  refine F.ok scMixed (fun vs H Q E h => ?_) (fun cdv A outer s H vs Q E hr h => ?_)
  · obtain ⟨wd, ds, m, Q', hds, hu, ⟨a, l, m', rfl, _⟩, _⟩ := h
    rw [hds.len]; rfl
  · obtain ⟨wd, ds, m, Q', hds, hu, ⟨a, l, m', rfl, ha, hl, rfl, q⟩, c⟩ := h
    obtain ⟨v1, r1, rfl, k1, k2⟩ := hds.uncons
    obtain ⟨v2, r2, rfl, k3, k4⟩ := k2.uncons
    cases k4.unnil
    unfold Hd at k1
    obtain ⟨u, hwu, rfl⟩ := k1
    have hseq : ∃ p vp, v2 = .ref p ∧ (SqL K H p vp ∨ SqT K H p vp) ∧ Hds wd H vp l := by
      rcases ha with rfl | rfl
      · rw [Hd.tup] at k3
        obtain ⟨p, vp, rfl, _, e, h⟩ := k3
        exact ⟨p, vp, rfl, .inr (SqT.of e), h⟩
      · rw [Hd.lst] at k3
        obtain ⟨p, vp, rfl, _, e, h⟩ := k3
        exact ⟨p, vp, rfl, .inl (SqL.of e), h⟩
    obtain ⟨p, vp, rfl, hsq, hvp⟩ := hseq
    have nd := scMixed.nd
    refine ⟨_, pss_cons (ps_par (i := 2) (j := 3) rfl nd rfl rfl (by decide) rfl rfl (pa_cons (pe_callTy call_list_of (by rfl) T.list (by decide +kernel) (pa_cons (pv 1) pa_nil)) (pa_cons (pe_lst pa_nil) pa_nil)) rfl)
      (pss_cons (ps_for PassesOwn.never rfl (pi_range1 rfl T.range (pa_cons (pe_callB call_len_seq (by rfl) T.len PySem.boot_len (pa_cons (pv 1) pa_nil)) pa_nil)) (pg_name (i := 4) nd rfl (Or.inl rfl))
        (pss_one (ps_expr (pe_bm PySem.F.plainAttrs_list PySem.F.slot_list_append PySem.F.type_list_append mt_append (pv 3) (pa_cons (pe_bm PySem.F.plainAttrs_list PySem.F.slot_list_pop PySem.F.type_list_pop mt_popAt (pv 2) (pa_cons (pe_call (ok_take A1.fn T) hr rfl A1.mg A1.fn.kp A1.bd .nil pass0 (pa_cons (pv 0) (pa_cons (pe_callB call_len_seq (by rfl) T.len PySem.boot_len (pa_cons (pv 2) pa_nil)) pa_nil))) pa_nil)) pa_nil)))))
      (pss_one (ps_ret (pv 3)))), ?_⟩
    refine ⟨_, rfl, p, vp, rfl, hsq, fun r hr0 => ⟨Nat.zero_le _, fun fo hf0 => ⟨_, _, rfl, ?_⟩⟩⟩
    have hf1 : H fo = none := by
      by_cases e : fo = r
      · rw [e, upd_same] at hf0; cases hf0
      · rw [upd_ne e] at hf0; exact hf0
    have hrf : r ≠ fo := fun e => by rw [← e, upd_same] at hf0; cases hf0
    have nu : ∀ {b : Addr}, H b = none → wd.u ≠ some b := fun {b} e z => by
      obtain ⟨x, y, z, e', _⟩ := hu.1 b z
      rw [e] at e'; cases e'
    let w2 : W := ⟨wd.u, fo :: r :: wd.ex, wd.ce, fun a h => List.mem_cons_of_mem _ (List.mem_cons_of_mem _ (wd.sub a h))⟩
    have ncE : ∀ {b : Addr}, H b = none → b ∉ w2.ce := fun {b} e z => by
      obtain ⟨o, e'⟩ := hu.2 b (wd.sub _ z)
      rw [e] at e'; cases e'
    have gr : Gr wd w2 H := ⟨rfl, fun a ha => List.mem_cons_of_mem _ (List.mem_cons_of_mem _ ha), fun a ha => by
      rcases List.mem_cons.mp ha with rfl | ha
      · exact .inr hf1
      · rcases List.mem_cons.mp ha with rfl | ha
        · exact .inr hr0
        · exact .inl ha, fun a ha => ha⟩
    have mr : r ∈ w2.ex := List.mem_cons_of_mem _ (List.mem_cons_self ..)
    have mf : fo ∈ w2.ex := List.mem_cons_self ..
    have hsq' : SqL K (upd (upd H r (.lst vp)) fo (.lst [])) p vp ∨ SqT K (upd (upd H r (.lst vp)) fo (.lst [])) p vp := by
      have s1 : Same H (upd (upd H r (.lst vp)) fo (.lst [])) := fun b o e => by rw [upd_ne (ne_of_none e hf1), upd_ne (ne_of_none e hr0)]; exact e
      rcases hsq with h | h
      · exact .inl (s1.seq h)
      · refine .inr ?_
        rcases h with (h | ⟨o, h⟩) | h
        · exact .inl (.inl (s1 _ _ h))
        · exact .inl (.inr ⟨o, s1 _ _ h⟩)
        · exact .inr h
    refine ⟨_, rfl, p, vp, rfl, hsq', (vp.length : Int), rfl, by omega, by have := hvp.len; omega, ?_⟩
    rw [Int.toNat_natCast]
    have f0 : Fr wd H (upd (upd H r (.lst vp)) fo (.lst [])) := (Fr.upd hr0).trans (Fr.upd hf0)
    have hvl := hvp.len
    refine for_range (lo := 0) (n := vp.length) (fun i σ H2 => ∃ (tv : Option V) (dr df : List D) (vr vf : List V), σ = [some (.ref u), some (.ref p), some (.ref r), some (.ref fo), tv] ∧ H2 r = some (.lst vr) ∧ H2 fo = some (.lst vf) ∧ Hds w2 H2 vr dr ∧ Hds w2 H2 vf df ∧ (df ++ dr).Perm l ∧ dr.length + i = l.length ∧ UI w2 (m' + dr.length) H2 ∧ Fr wd H H2)
      ⟨none, l, [], vp, [], rfl, by rw [upd_ne hrf, upd_same], upd_same, ((hvp.grow gr).fr (f0.widen gr)), .nil, .refl _, rfl, ?_, f0⟩ ?_ ?_
    · have := (hu.first (o := .lst vp) hr0).first (o := .lst []) hf0
      exact this
    · rintro i σ H2 hi ⟨tv, dr, df, vr, vf, rfl, e1, e2, h1, h2, pm, hn, u2, fr⟩
      have hdr : 0 < dr.length := by omega
      have hlr := h1.len
      have hlf := h2.len
      have hpl := pm.length_eq
      rw [List.length_append] at hpl
      refine ⟨_, rfl, .inl ⟨rfl, _, SqL.of e2⟩, _, rfl, .inl ⟨rfl, _, SqL.of e1⟩, _, rfl, _, rfl, r, vr, rfl, .inl (SqL.of e1), ?_⟩
      refine ⟨w2, [.urn, .int (vr.length : Nat)], m' + dr.length, (fun d mm => ∃ v' : Int, d = .int v' ∧ 0 ≤ v' ∧ v' < (vr.length : Nat) ∧ mm = m' + (dr.length - 1)), .cons (by unfold Hd; exact ⟨u, hwu, rfl⟩) (.cons (Hd.int.mpr rfl) .nil), u2, ⟨_, m' + (dr.length - 1), rfl, by omega, by omega, by omega, fun v v0 v1 => ⟨v, rfl, v0, v1, rfl⟩⟩, ?_⟩
      rintro v dv mm H3 f3 u3 h3 ⟨k, rfl, k0, k1, rfl⟩
      rw [Hd.int] at h3
      subst h3
      have nr : w2.u ≠ some r := nu hr0
      have nf : w2.u ≠ some fo := nu hf1
      have e13 : H3 r = some (.lst vr) := f3 _ _ nr e1
      have e23 : H3 fo = some (.lst vf) := f3 _ _ nf e2
      have hk : k.toNat < vr.length := by omega
      have hkd : k.toNat < dr.length := by omega
      obtain ⟨y, ey, hy⟩ := h1.get (i := k.toNat) (d := dr[k.toNat]) (by simp [hkd])
      refine ⟨r, vr, k, k.toNat, y, rfl, rfl, e13, by omega, by omega, ?_, ey, ?_⟩
      · simp [seqIndex?, show ¬ k < 0 by omega, k0, k1]
      · refine ⟨fo, vf, y, rfl, rfl, by rw [upd_ne (Ne.symm hrf)]; exact e23, ?_, ?_⟩
        · exact small1000 (by omega)
        · refine ⟨_, dr.eraseIdx k.toNat, df ++ [dr[k.toNat]], vr.eraseIdx k.toNat, vf ++ [y], rfl, by rw [upd_ne hrf, upd_same], upd_same, ?_, ?_, ?_, ?_, ?_, ?_⟩
          · exact (((h1.fr f3).erase _).write (.inr mr) (ncE hr0)).write (.inr mf) (ncE hf1)
          · exact ((((h2.fr f3).app (.cons (hy.fr f3) .nil))).write (.inr mr) (ncE hr0)).write (.inr mf) (ncE hf1)
          · refine List.Perm.trans ?_ pm
            rw [List.append_assoc]
            exact List.Perm.append_left df (erase_perm dr hkd)
          · rw [List.length_eraseIdx_of_lt hkd]; omega
          · rw [List.length_eraseIdx_of_lt hkd]
            exact (u3.put mr nr).put mf nf
          · intro b o nb e
            rw [upd_ne (ne_of_none e hf1), upd_ne (ne_of_none e hr0)]
            exact f3 b o (by exact nb) (fr b o nb e)
    · rintro σ H2 ⟨tv, dr, df, vr, vf, rfl, e1, e2, h1, h2, pm, hn, u2, fr⟩
      have hz : dr.length = 0 := by omega
      have hz := List.length_eq_zero_iff.mp hz
      subst hz
      refine ⟨_, rfl, c _ _ m' H2 fr ?_ (Hd.lst.mpr ⟨fo, vf, rfl, hu.new hf1, e2, h2.shrink gr (fun a h => h)⟩) (q df (by simpa using pm))⟩
      exact (u2.less gr)
end
end TC
namespace TC
open PySem PySem.Spec PyProof.Rows L2 RZ
variable [Cl]
abbrev sBox : Stmt := top 35
abbrev sCells : Stmt := top 37
theorem b01 (b : Bool) : -(2 ^ 64) < (if b = true then (1 : Int) else 0) ∧ (if b = true then (1 : Int) else 0) < 2 ^ 64 := by
  cases b <;> exact ⟨by decide, by decide⟩
theorem ixN_nat {n j : Nat} (h : j < n) : ixN n (j : Int) = some j := by
  unfold ixN
  rw [if_pos (by omega), if_pos (by omega)]
  simp
section
variable {P : Program} {w : World} {K : PySem.W.Frag} {mg : Str → Option Value} {base : Heap}
def spBox (K : PySem.W.Frag) : Sp := fun vs H Q _ => ∃ (a : Addr) (ns : List Int) (k : Int), vs = [.ref a, .int k] ∧ SqL K H a (ns.map V.int) ∧ 0 ≤ k ∧ k < (ns.length : Nat) ∧ ns.length ≤ 1000 ∧
  ∀ H' p x y, Same H H' → H p = none → H' p = some (.lst [.int x, .int y, .int 0]) → Q (.ref p) H'
theorem scBox : FnScope ["_law_script", "_law_k", "_law_cell"] ["_law_script", "_law_k"] (defScope sBox) := ⟨rfl, rfl, rfl, by decide +kernel, rfl, by decide +kernel, by decide +kernel⟩
theorem ok_box {f : Addr} {fd : FuncData} (F : Fun K "_law_box" "_law_box" sBox f fd) (T : Blt mg) : FnOk P w K mg base CX0 1 f fd ["_law_script", "_law_k"] (spBox K) := by
  refine F.ok scBox (fun vs H Q E h => ?_) (fun cdv A outer s H vs Q E hr h => ?_)
  · obtain ⟨a, ns, k, rfl, _⟩ := h
    rfl
  · obtain ⟨a, ns, k, rfl, ha, k0, k1, kl, q⟩ := h
    have nd := scBox.nd
    refine ⟨_, pss_cons (ps_set (i := 2) nd rfl (Or.inl rfl) (pe_ifExp (pt_cmpR op_lt (pv 1) (pe_callB call_len_seq (by rfl) T.len PySem.boot_len (pa_cons (pv 0) pa_nil)) (nomark _)) (pe_ix ix_list (pv 0) (pv 1) (fun _ _ => rfl)) pe_int))
      (pss_one (ps_ret (pe_lst (pa_cons (pe_op op_mul (pe_callB call_abs (by rfl) T.abs (by decide +kernel) (pa_cons (pv 2) pa_nil)) (pe_callTy call_int1 (by rfl) T.int (by decide +kernel) (pa_cons (pe_cmpR op_ge (pe_callB call_abs (by rfl) T.abs (by decide +kernel) (pa_cons (pv 2) pa_nil)) (pe_op op_pow pe_int pe_int) (nomark _)) pa_nil)))
        (pa_cons (pe_op op_add (pe_op op_add (pe_op op_mod (pe_callTy call_int1 (by rfl) T.int (by decide +kernel) (pa_cons (pv 2) pa_nil)) pe_int) (pe_op op_mul pe_int (pv 1))) pe_int) (pa_cons pe_int pa_nil)))))), ?_⟩
    have hk : k.toNat < ns.length := by omega
    have hat : atI (ns.map V.int) k = some (.int ns[k.toNat]) := by
      have e : k = ((k.toNat : Nat) : Int) := by omega
      refine at_of e ?_
      simp [hk]
    refine ⟨_, rfl, _, rfl, a, _, rfl, .inl ha, _, _, rfl, rfl, _, rfl, ?_⟩
    rw [List.length_map, decide_eq_true k1]
    refine iteT ⟨_, rfl, _, rfl, a, _, _, _, rfl, rfl, ha, hat, ?_⟩
    refine ⟨_, rfl, _, rfl, _, rfl, _, rfl, _, _, rfl, rfl, ⟨by decide, by decide, by decide⟩, _, _, rfl, rfl, .inr ⟨_, rfl, _, _, rfl, rfl, .inr ?_, ?_⟩⟩
    · exact b01 _
    · refine ⟨_, rfl, .inl ⟨_, rfl, _, _, rfl, rfl, (by show (0 : Int) < _; decide), _, rfl, _, _, rfl, rfl, .inl ⟨by decide, by decide⟩, _, _, rfl, rfl, _, _, rfl, rfl, (by show 3 ≤ sizeLine; decide), fun p hp => ?_⟩⟩
      exact q _ p _ _ (fun b o e => by rw [upd_ne (ne_of_none e hp)]; exact e) hp upd_same
def spCells (K : PySem.W.Frag) : Sp := fun vs H Q _ => ∃ (a : Addr) (ns : List Int) (t : Nat), vs = [.ref a, .int (t : Nat)] ∧ SqL K H a (ns.map V.int) ∧ ns.length ≤ 63 ∧ 0 < t ∧ t ≤ 63 ∧
  ∀ (H' : Hp) (p : Addr) (ms : List Int), Same H H' → H p = none → H' p = some (.lst (ms.map V.int)) → 0 < ms.length → ms.length ≤ 63 → Q (.ref p) H'
theorem or_case {K : PySem.W.Frag} {H Hc : Hp} {c1 : Addr} {ns : List Int} {t : Nat} {Q : V → Hp → Prop} (t0 : 0 < t) (sm1 : Same H Hc) (nc1 : H c1 = none) (hp1 : Hc c1 = some (.lst ((ns.take t).map V.int)))
    (hQ : ∀ (Hx : Hp) (p : Addr) (ms : List Int), Same H Hx → H p = none → Hx p = some (.lst (ms.map V.int)) → 0 < ms.length → ms.length ≤ max 1 ns.length → (t ≤ ns.length → ms.length = t) → Q (.ref p) Hx) :
    ∃ k, TruV K (.ref c1) Hc k ∧ if k = true then Q (.ref c1) Hc else (1 ≤ sizeLine ∧ ∀ c2, Hc c2 = none → Q (.ref c2) (upd Hc c2 (.lst [.int 0]))) := by
  refine ⟨_, .inl ⟨_, SqL.of hp1, rfl⟩, ?_⟩
  cases ns with
  | nil =>
    rw [show ((List.take t ([] : List Int)).map V.int).isEmpty = true by simp]
    refine iteF ⟨(by show 1 ≤ sizeLine; decide), fun c2 hc2 => ?_⟩
    refine hQ _ c2 [0] (fun b o e => by rw [upd_ne (ne_of_none (sm1 b o e) hc2)]; exact sm1 b o e) (sm1.free hc2) upd_same (by simp) (by simp) (fun h => ?_)
    simp at h; omega
  | cons n ns =>
    obtain ⟨t', rfl⟩ : ∃ t', t = t' + 1 := ⟨t - 1, by omega⟩
    rw [show ((List.take (t' + 1) (n :: ns)).map V.int).isEmpty = false by simp]
    refine iteT (hQ _ c1 _ sm1 nc1 hp1 (by simp) ?_ fun h => ?_)
    · rw [List.length_take]; omega
    · rw [List.length_take]; omega
theorem scCells : FnScope ["_law_script", "_law_top", "_law_cells_here", "_law_k", "_law_cell", "_law_at_so"] ["_law_script", "_law_top"] (defScope sCells) := ⟨rfl, rfl, rfl, by decide +kernel, rfl, by decide +kernel, by decide +kernel⟩
theorem ok_cells {f : Addr} {fd : FuncData} (F : Fun K "_law_cells" "_law_cells" sCells f fd) (T : Blt mg) : FnOk P w K mg base CX0 1 f fd ["_law_script", "_law_top"] (spCells K) := by
  refine F.ok scCells (fun vs H Q E h => ?_) (fun cdv A outer s H vs Q E hr h => ?_)
  · obtain ⟨a, ns, t, rfl, _⟩ := h
    rfl
  · obtain ⟨a, ns, t, rfl, ha, hl, t0, t1, q⟩ := h
    have nd := scCells.nd
    refine ⟨_, pss_cons (ps_set (i := 2) nd rfl (Or.inl rfl) (pe_orT (pe_callTy call_list_of (by rfl) T.list (by decide +kernel) (pa_cons (pe_slice sl_list (pv 0) po_none (po_some (pv 1))) pa_nil)) (pe_one (pe_lst (pa_cons pe_int pa_nil)))))
      (pss_cons (ps_for PassesOwn.never rfl (pi_enum (by rfl) T.enumerate (pa_cons (pe_slice sl_list (pv 0) (po_some (pv 1)) (po_some pe_int)) pa_nil)) (pg_tup rfl (pgs_cons (pg_name (i := 3) nd rfl (.inl rfl)) (pgs_cons (pg_name (i := 4) nd rfl (.inl rfl)) pgs_nil)))
        (pss_cons (ps_set (i := 5) nd rfl (Or.inl rfl) (pe_op op_mod (pe_callTy call_int1 (by rfl) T.int (by decide +kernel) (pa_cons (pv 3) pa_nil)) (pv 1)))
        (pss_one (ps_asg (pe_op op_add (pe_ix ix_list (pv 2) (pv 5) (fun _ _ => rfl)) (pe_op op_mul (pv 4) (pe_op op_add (pv 3) pe_int))) (pg_sub (pv 2) (pv 5) set_list)))))
      (pss_one (ps_ret (pv 2)))), ?_⟩
    have hcut : cutV (ns.map V.int) none (some (t : Int)) = (ns.take t).map V.int := by
      unfold cutV
      rw [HT.sIx_none, HT.sIx_nat, List.length_map, List.drop_zero, Nat.sub_zero, List.map_take, ← List.length_map (f := V.int) (as := ns)]
      by_cases h : t ≤ (ns.map V.int).length
      · rw [Nat.min_eq_left h]
      · rw [Nat.min_eq_right (by omega), List.take_length, List.take_of_length_le (by omega)]
    refine ⟨_, rfl, _, rfl, _, rfl, a, _, rfl, ha, fun s1 hs1 => ?_⟩
    rw [hcut]
    refine ⟨s1, _, rfl, .inl (SqL.of upd_same), fun c1 hc1 => ?_⟩
    have nc1 : H c1 = none := by
      by_cases e : c1 = s1
      · rw [e]; exact hs1
      · rw [upd_ne e] at hc1; exact hc1
    have sm1 : Same H (upd (upd H s1 (.lst ((ns.take t).map V.int))) c1 (.lst ((ns.take t).map V.int))) := fun b o e => by rw [upd_ne (ne_of_none e nc1), upd_ne (ne_of_none e hs1)]; exact e
    generalize hg : upd (upd H s1 (.lst ((ns.take t).map V.int))) c1 (.lst ((ns.take t).map V.int)) = Hc at sm1
    have hp1 : Hc c1 = some (.lst ((ns.take t).map V.int)) := by rw [← hg]; exact upd_same
    have hlen : ns.length ≤ 63 := hl
    let es : List Int := (ns.drop (min t ns.length)).take (min 63 ns.length - min t ns.length)
    have hcut2 : cutV (ns.map V.int) (some (t : Int)) (some 63) = es.map V.int := by
      unfold cutV
      rw [HT.sIx_nat, show (63 : Int) = ((63 : Nat) : Int) from rfl, HT.sIx_nat, List.length_map]
      simp [es, List.map_take, List.map_drop]
    have hesl : es.length ≤ 63 := by simp only [es, List.length_take, List.length_drop]; omega
    have hest : 0 < es.length → t < ns.length := fun h => by simp only [es, List.length_take, List.length_drop] at h; omega
    dsimp only [tLst, tCons, tC, tNil]
    refine or_case (Q := fun x H1 => gName 2 x _ H1 _) t0 sm1 nc1 hp1 (fun Hx p ms sm np hp l0 l1 lt => ?_)
    have haX : SqL K Hx a (ns.map V.int) := sm.seq ha
    refine ⟨_, rfl, _, rfl, _, rfl, _, rfl, a, _, rfl, haX, fun s2 hs2 => ?_⟩
    rw [hcut2]
    refine ⟨s2, _, rfl, SqL.of upd_same, ?_⟩
    have n2 : H s2 = none := sm.free hs2
    have hps : p ≠ s2 := ne_of_none hp hs2
    refine for_it (walk_enum (K := K) (a := s2) (xs := es.map V.int)) (fun i σ H3 => ∃ (o3 o4 o5 : Option V) (ms' : List Int), σ = [some (.ref a), some (.int t), some (.ref p), o3, o4, o5] ∧ Same H H3 ∧ H3 s2 = some (.lst (es.map V.int)) ∧ H3 p = some (.lst (ms'.map V.int)) ∧ ms'.length = ms.length)
      ⟨none, none, none, ms, rfl, fun b o e => by rw [upd_ne (ne_of_none e n2)]; exact sm b o e, upd_same, by rw [upd_ne hps]; exact hp, rfl⟩ (fun i σ H3 _ ⟨_, _, _, _, _, _, e, _⟩ => SqL.of e) ?_ ?_
    · rintro i x σ H3 H4 hi ⟨o3, o4, o5, ms', rfl, sm3, e2, ep, el⟩ ⟨T1, x1, y1, rfl, hT, rfl, hx1, hy1⟩
      have hi' : i < es.length := by simpa using hi
      cases hx1
      have hy2 : y1 = .int es[i] := by
        have : (es.map V.int)[i]? = some y1 := hy1
        rw [List.getElem?_map, List.getElem?_eq_getElem hi'] at this
        exact (Option.some.inj this).symm
      subst hy2
      have hpT : p ≠ T1 := ne_of_none ep hT
      have hp4 : upd H3 T1 (.tup [V.int (i : Int), .int es[i]]) p = some (.lst (ms'.map V.int)) := by rw [upd_ne hpT]; exact ep
      have hmt : ms.length = t := lt (by have := hest (by omega); omega)
      have hj : i % t < ms'.length := by rw [el, hmt]; exact Nat.mod_lt _ t0
      have hij : ((i : Int) % (t : Int)) = ((i % t : Nat) : Int) := by omega
      refine ⟨T1, _, rfl, SqT.of upd_same, rfl, _, _, rfl, _, _, rfl, rfl, ?_⟩
      refine ⟨_, rfl, .inl ⟨_, rfl, _, rfl, _, _, rfl, rfl, (by show (0 : Int) < (t : Int); omega), ?_⟩⟩
      refine ⟨_, rfl, _, rfl, p, _, _, .int ms'[i % t], rfl, rfl, SqL.of hp4, at_of hij (by simp [hj]), _, rfl, _, rfl, _, _, rfl, rfl, _, _, rfl, rfl, .inr ⟨by omega, by omega⟩, _, _, rfl, rfl, ?_⟩
      refine ⟨_, rfl, _, rfl, p, _, _, i % t, rfl, rfl, hp4, ?_, ?_⟩
      · rw [hij, List.length_map]
        exact ixN_nat hj
      · refine ⟨_, _, _, ms'.set (i % t) (ms'[i % t] + es[i] * ((i : Int) + 2)), rfl, ?_, ?_, ?_, by rw [List.length_set]; exact el⟩
        · intro b o e
          rw [upd_ne (ne_of_none e np), upd_ne (ne_of_none (sm3 b o e) hT)]
          exact sm3 b o e
        · rw [upd_ne (Ne.symm hps), upd_ne (ne_of_none e2 hT)]
          exact e2
        · rw [upd_same, List.map_set]
    · rintro σ H3 ⟨o3, o4, o5, ms', rfl, sm3, e2, ep, el⟩
      exact ⟨_, rfl, q H3 p ms' sm3 np ep (by omega) (by omega)⟩
end
end TC
namespace TC
open PySem PySem.Spec PyProof.Rows L2 RZ
variable [Cl]
/-! ### texts as code points -/
def cp (z : Str) : List Nat := z.cps.toList
theorem cp_len (z : Str) : (cp z).length = z.length := by show z.cps.toList.length = z.cps.size; simp
theorem cp_inj {x y : Str} (h : cp x = cp y) : x = y := by
  obtain ⟨⟨a⟩⟩ := x; obtain ⟨⟨b⟩⟩ := y
  have : a = b := h
  rw [this]
theorem cp_app (x y : Str) : cp (x ++ y) = cp x ++ cp y := by
  show (x.cps ++ y.cps).toList = _
  simp [cp]
theorem joinL_nil : ∀ l : List (List Nat), TL.joinL [] l = l.flatten
  | [] => rfl
  | [p] => by simp [TL.joinL]
  | p :: q :: r => by
    rw [TL.joinL, joinL_nil (q :: r)]
    simp
theorem cp_join {a : Str} (h : cp a = []) (ys : List Str) : cp (Txt.join a ys) = (ys.map cp).flatten := by
  have e1 : cp (Txt.join a ys) = TL.tl (Txt.join a ys) := rfl
  rw [e1, TL.join_eq, TL.tl_join]
  have e2 : TL.tl a = [] := h
  rw [e2, joinL_nil]
  rfl
theorem cp_cut0 (z : Str) (n : Nat) (h : n ≤ z.length) : cp (cutS z none (some (n : Int))) = (cp z).take n := by
  unfold cutS cp
  rw [HT.sIx_none, HT.sIx_nat, Nat.min_eq_left h]
  simp
theorem cp_cut1 (z : Str) (n : Nat) (h : n ≤ z.length) : cp (cutS z (some (n : Int)) none) = (cp z).drop n := by
  unfold cutS cp
  rw [HT.sIx_none, HT.sIx_nat, Nat.min_eq_left h]
  have e : z.length = z.cps.toList.length := by simp [Str.length]
  rw [e]
  have e2 : (z.cps.toList.drop n).length = z.cps.toList.length - n := by simp
  rw [← e2, List.take_length]
/-- one sign -/
def sg (c : Nat) : Str := ⟨#[c]⟩
theorem cp_sg (c : Nat) : cp (sg c) = [c] := rfl
/-- a NAME, of at most thirty letters -/
structure Nm (z : Str) : Prop where
  pos : 0 < z.length
  len : z.length ≤ 30
  low : ∀ c ∈ cp z, 97 ≤ c ∧ c ≤ 122
section
variable {X : Cx} {o e : Expr} {to te : DE}
theorem de_join {apos pos : Pos} (ho : De X o to) (he : De X e te) (hs : starEach [e] X.env = [(false, eval e X.env)] := by rfl) (hbase : attributeBase o "join" X.env (eval o X.env) = eval o X.env := by rfl) (hline : (apos.endLine == pos.line) = true := by rfl) :
    De X (.Call (.Attribute o "join" apos) [e] [] pos) (fun env m Q => to env m fun x m1 => ∃ a, x = .str a ∧ te env m1 fun y m2 => ∃ ys : List Str, Sq y (ys.map D.str) ∧ (ys.map (·.length)).sum + ys.length * a.length ≤ 16777216 ∧ Q (.str (Txt.join a ys)) m2) := by
  refine ⟨fun w σ H env m Q' Q sl hu h c => wp_of (pe_join pe_self pe_self hs hbase hline) ?_⟩
  refine ho.run w σ H env m _ _ sl hu h fun v d m1 H1 f1 u1 h1 q1 => ?_
  obtain ⟨a, rfl, q1⟩ := q1
  rw [Hd.str] at h1
  subst h1
  refine ⟨⟨a, rfl⟩, ?_⟩
  refine he.run w σ H1 env m1 _ _ (sl.fr f1) u1 q1 fun v2 d2 m2 H2 f2 u2 h2 q2 => ?_
  obtain ⟨ys, hq, hz, q⟩ := q2
  have fl : (ys.map D.str).all flatD = true := by rw [List.all_eq_true]; intro d hd; obtain ⟨b, _, rfl⟩ := List.mem_map.mp hd; rfl
  have e : (ys.map D.str).map fv = ys.map V.str := by rw [List.map_map]; rfl
  rcases hq with rfl | rfl
  · rw [Hd.tup] at h2
    obtain ⟨p, vs, rfl, _, hp, hds⟩ := h2
    have := hds.flat fl
    rw [e] at this; subst this
    exact ⟨a, p, ys, rfl, rfl, .inr (SqT.of hp), hz, c _ _ _ _ (f1.trans f2) u2 (Hd.str.mpr rfl) q⟩
  · rw [Hd.lst] at h2
    obtain ⟨p, vs, rfl, _, hp, hds⟩ := h2
    have := hds.flat fl
    rw [e] at this; subst this
    exact ⟨a, p, ys, rfl, rfl, .inl (SqL.of hp), hz, c _ _ _ _ (f1.trans f2) u2 (Hd.str.mpr rfl) q⟩
theorem do_mul : DOp X (binaryOp .Mult) (dI CMul fun i j => .int (i * j)) := do_I op_mul fun _ _ => ⟨rfl, rfl⟩
end
/-! ### drawn NAMEs -/
abbrev z26 : Str := "abcdefghijklmnopqrstuvwxyz"
theorem z26_at {v : Int} (h0 : 0 ≤ v) (h1 : v < 26) : atI z26.cps.toList v = some (97 + v.toNat) := by
  have key : ∀ i : Nat, i < 26 → z26.cps.toList[i]? = some (97 + i) := by decide +kernel
  have e : v = ((v.toNat : Nat) : Int) := by omega
  rw [e, atI_nat (key v.toNat (by omega))]
  rfl
theorem z26_len : z26.length ≤ sizeLine := by decide +kernel
/-- unlike NAMEs -/
structure Nms (ts : List Str) (n : Nat) : Prop where
  len : ts.length = n
  nd : ts.Nodup
  nm : ∀ t ∈ ts, Nm t
theorem if_and {t u : DT} {env : Env} {m : Nat} {A B : Nat → Prop} (p : Prop) (c : Nat) (ht : ∀ R : Bool → Nat → Prop, (∀ b, (b = true → p) → R b m) → t env m R) (hu : ∀ R : Bool → Nat → Prop, (∀ b m2, c ≤ m2 → R b m2) → u env m R) (hm : c ≤ m)
    (hA : ∀ m2, c ≤ m2 → p → A m2) (hB : ∀ m2, c ≤ m2 → B m2) : dAnd t u env m fun b m1 => if b = true then A m1 else B m1 := by
  refine ht _ fun b hb => ?_
  cases b with
  | false => exact iteF (iteF (hB _ hm))
  | true =>
    refine iteT (hu _ fun b m2 h2 => ?_)
    cases b with
    | false => exact iteF (hB _ h2)
    | true => exact iteT (hA _ h2 (hb rfl))
theorem dLc_nats {ti : DI} {i : Nat} {de : DE} {vs : List Nat} {env : Env} {m : Nat} {Q : D → Nat → Prop} (N : Nat) (g : Nat → D) (hti : ∀ R : List D → Nat → Prop, R (nats N) m → ti env m R) (hsz : N ≤ sizeLine)
    (he : ∀ k, k < N → ∀ mm (R : D → Nat → Prop), R (g k) mm → de ((wipeE env vs).set i (some (.int (k : Int)))) mm R)
    (q : Q (.lst ((List.range N).map g)) m) : dLc ti (dgName i) dYes de vs env m Q := by
  have hl : (nats N).length = N := by simp [nats]
  refine hti _ ⟨by rw [hl]; exact hsz, fun k acc mm => mm = m ∧ acc = (List.range k).map g, ⟨rfl, rfl⟩, ?_, ?_⟩
  · rintro k d acc mm hd ⟨rfl, rfl⟩
    have hk : k < N := by
      obtain ⟨h1, _⟩ := List.getElem?_eq_some_iff.mp hd
      rw [hl] at h1; exact h1
    rw [nats_get hk] at hd
    cases hd
    refine he k hk mm _ ⟨rfl, ?_⟩
    rw [List.range_succ]
    simp
  · rintro acc mm ⟨rfl, rfl⟩
    rw [hl]
    exact q
theorem cutD_nat {α : Type} (l : List α) (j : Nat) : cutD l none (some (j : Int)) = l.take j := by
  unfold cutD
  rw [HT.sIx_none, HT.sIx_nat, List.drop_zero, Nat.sub_zero]
  by_cases h : j ≤ l.length
  · rw [Nat.min_eq_left h]
  · rw [Nat.min_eq_right (by omega), List.take_length, List.take_of_length_le (by omega)]
theorem sum_ones : ∀ (cs : List Nat), ((cs.map sg).map (·.length)).sum = cs.length
  | [] => rfl
  | c :: cs => by
    have h : (sg c).length = 1 := rfl
    rw [List.map_cons, List.map_cons, List.sum_cons, sum_ones cs, h, List.length_cons]
    omega
theorem small_join (N j : Nat) (hN : N ≤ 26) (g : Nat → Nat) : ((((List.range N).map fun i => sg (g i)).take j).map (·.length)).sum + (((List.range N).map fun i => sg (g i)).take j).length * ("" : Str).length ≤ 16777216 := by
  have e : ((List.range N).map fun i => sg (g i)).take j = (((List.range N).take j).map g).map sg := by rw [← List.map_take, List.map_map]; rfl
  rw [e, sum_ones, show ("" : Str).length = 0 from rfl, Nat.mul_zero, List.length_map, List.length_take, List.length_range]
  omega
theorem join_sg {e : Str} (he : cp e = []) (cs : List Nat) : cp (Txt.join e (cs.map sg)) = cs := by
  rw [cp_join he, List.map_map]
  induction cs with
  | nil => rfl
  | cons c cs ih => rw [List.map_cons, List.flatten_cons, ih]; rfl
def unD : D → Str
  | .str z => z
  | _ => ⟨#[]⟩
theorem perm_str {l : List D} {us : List Str} (h : l.Perm (us.map D.str)) : ∃ ts : List Str, ts.Perm us ∧ l = ts.map D.str := by
  refine ⟨l.map unD, ?_, ?_⟩
  · have := h.map unD
    rw [List.map_map] at this
    have e : (unD ∘ D.str) = id := by funext x; rfl
    rw [e, List.map_id] at this
    exact this
  · rw [List.map_map]
    have : ∀ d ∈ l, (D.str ∘ unD) d = d := fun d hd => by
      obtain ⟨z, _, rfl⟩ := List.mem_map.mp (h.mem_iff.mp hd)
      rfl
    rw [List.map_congr_left this, List.map_id']
theorem Nms.perm {ts us : List Str} {n : Nat} (h : ts.Perm us) (k : Nms us n) : Nms ts n := ⟨h.length_eq.trans k.len, h.nodup_iff.mpr k.nd, fun t ht => k.nm t (h.mem_iff.mp ht)⟩
theorem nodup_map {g : Nat → Str} : ∀ n : Nat, (∀ i j, i < n → j < n → g i = g j → i = j) → ((List.range n).map g).Nodup := fun n h => by
  rw [List.nodup_iff_pairwise_ne, List.pairwise_map]
  refine List.Pairwise.imp_of_mem ?_ (List.pairwise_lt_range (n := n))
  intro i j hi hj hlt e
  have := h i j (List.mem_range.mp hi) (List.mem_range.mp hj) e
  omega
def ltr (f b k : Nat) : Nat := 97 + (f + b * k) % 26
theorem ltr_low (f b k : Nat) : 97 ≤ ltr f b k ∧ ltr f b k ≤ 122 := by unfold ltr; omega
theorem ltr_inj {f b : Nat} (hb : b = 1 ∨ b = 3 ∨ b = 7 ∨ b = 11 ∨ b = 25) {i j : Nat} (hi : i < 26) (hj : j < 26) (h : ltr f b i = ltr f b j) : i = j := by
  unfold ltr at h
  rcases hb with rfl | rfl | rfl | rfl | rfl <;> omega
/-- the first k + 1 letters -/
def pre (f b k : Nat) (e : Str) (N : Nat) : Str := Txt.join e (((List.range N).map fun i => sg (ltr f b i)).take (k + 1))
theorem pre_cp {f b k N : Nat} {e : Str} (he : cp e = []) (hk : k < N) : cp (pre f b k e N) = (List.range (k + 1)).map (ltr f b) := by
  unfold pre
  rw [cp_join he, ← List.map_take, List.take_range, Nat.min_eq_left (by omega), List.map_map]
  generalize List.range (k + 1) = l
  induction l with
  | nil => rfl
  | cons a l ih => 
    rw [List.map_cons, List.flatten_cons, ih]
    rfl
theorem pre_nms {f b n N : Nat} {e : Str} (he : cp e = []) (hn : n ≤ N) (h26 : n ≤ 26) : Nms ((List.range n).map fun k => pre f b k e N) n := by
  refine ⟨by simp, nodup_map n fun i j hi hj h => ?_, fun t ht => ?_⟩
  · have := congrArg (fun z => (cp z).length) h
    simp only [pre_cp he (show i < N by omega), pre_cp he (show j < N by omega), List.length_map, List.length_range] at this
    omega
  · obtain ⟨k, hk, rfl⟩ := List.mem_map.mp ht
    have hk := List.mem_range.mp hk
    refine ⟨?_, ?_, fun c hc => ?_⟩
    · rw [← cp_len, pre_cp he (by omega)]; simp
    · rw [← cp_len, pre_cp he (by omega)]; simp; omega
    · rw [pre_cp he (by omega)] at hc
      obtain ⟨i, _, rfl⟩ := List.mem_map.mp hc
      exact ltr_low ..
/-- a letter put into the stem -/
def put (f b : Nat) (z : Str) (a : Nat) (k : Nat) : Str := cutS z none (some (a : Int)) ++ sg (ltr f b k) ++ cutS z (some (a : Int)) none
theorem put_cp {f b a k : Nat} {z : Str} (h : a ≤ z.length) : cp (put f b z a k) = (cp z).take a ++ [ltr f b k] ++ (cp z).drop a := by
  unfold put
  rw [cp_app, cp_app, cp_cut0 z a h, cp_cut1 z a h, cp_sg]
theorem put_nms {f b a n : Nat} {z : Str} (hb : b = 1 ∨ b = 3 ∨ b = 7 ∨ b = 11 ∨ b = 25) (h : a ≤ z.length) (hz : z.length ≤ 29) (hl : ∀ c ∈ cp z, 97 ≤ c ∧ c ≤ 122) (h26 : n ≤ 26) : Nms ((List.range n).map fun k => put f b z a k) n := by
  refine ⟨by simp, nodup_map n fun i j hi hj e => ?_, fun t ht => ?_⟩
  · have := congrArg cp e
    rw [put_cp h, put_cp h, List.append_assoc, List.append_assoc] at this
    have := List.append_cancel_left this
    simp only [List.cons_append, List.nil_append, List.cons.injEq] at this
    exact ltr_inj hb (by omega) (by omega) this.1
  · obtain ⟨k, hk, rfl⟩ := List.mem_map.mp ht
    have hlen : (cp (put f b z a k)).length = z.length + 1 := by
      rw [put_cp h]
      have := cp_len z
      simp only [List.length_append, List.length_take, List.length_drop, List.length_cons, List.length_nil, this]
      omega
    refine ⟨by rw [← cp_len]; omega, by rw [← cp_len]; omega, fun c hc => ?_⟩
    rw [put_cp h] at hc
    simp only [List.mem_append, List.mem_singleton] at hc
    rcases hc with (hc | rfl) | hc
    · exact hl c (List.mem_of_mem_take hc)
    · exact ltr_low ..
    · exact hl c (List.mem_of_mem_drop hc)
section
variable {P : Program} {w : World} {K : PySem.W.Frag} {mg : Str → Option Value} {base : Heap}
abbrev nTags : List Str := ["_law_urn", "_law_many_so", "_law_signs", "_law_first_so", "_law_by_so", "_law_row_so", "_law_stem", "_law_at_so", "_law_k", "_law_turn"]
def spTags : DSp := fun ds m Q => ∃ n m' : Nat, ds = [.urn, .int (n : Int)] ∧ n ≤ 26 ∧ m = m' + 12 + n ∧ ∀ ts mm, m' ≤ mm → Nms ts n → Q (.lst (ts.map D.str)) mm
theorem scTags : FnScope nTags ["_law_urn", "_law_many_so"] (defScope sTags) := ⟨rfl, rfl, rfl, by decide +kernel, rfl, by decide +kernel, by decide +kernel⟩
theorem ok_tags {f fT fO fM : Addr} {fd fdT fdO fdM : FuncData} (F : Fun K "_law_tags" "_law_tags" sTags f fd) (T : Blt mg) (A1 : At K mg "_law_take" sTake ["_law_urn", "_law_low_so"] fT fdT) (A2 : At K mg "_law_of" sOf ["_law_urn", "_law_some_so"] fO fdO)
    (A3 : At K mg "_law_mixed" sMixed ["_law_urn", "_law_pool"] fM fdM) : FnOk P w K mg base CX0 3 f fd ["_law_urn", "_law_many_so"] (spD spTags) := by
  refine fnD F scTags ?_ fun cdv A outer s H E ds m Q' hr h => ?_
  · rintro ds m Q ⟨n, m', rfl, _⟩
    rfl
  · obtain ⟨n, m', rfl, hn, rfl, q⟩ := h
    have nd := scTags.nd
    have hr1 : Room 1 _ := hr.mono (by decide)
    refine ⟨_, dss_cons (ds_set (i := 2) nd de_str)
      (dss_cons (ds_asg (de_tup (da_cons (de_call (ok_take A1.fn T) hr1 A1.mg A1.fn.kp A1.bd (da_cons (dv 0) (da_cons de_int da_nil))) (da_cons (de_call (ok_of A2.fn T A1) hr A2.mg A2.fn.kp A2.bd (da_cons (dv 0) (da_cons (de_lst (da_cons de_int (da_cons de_int (da_cons de_int (da_cons de_int (da_cons de_int da_nil)))))) da_nil))) da_nil))) (dg_tup2 (i := 3) (j := 4) rfl nd))
      (dss_cons (ds_set (i := 5) nd (de_lc (own := [("_law_k", 8)]) rfl nd (di_range T.range (de_callB (dc_max2 rfl) T.max (da_cons de_int (da_cons (dv 1) da_nil)))) (blkOk_by (N := nTags) (sc := defScope sTags) (by decide +kernel)) (fun _ _ _ _ _ => dg_name (i := 8) nd) (fun _ _ _ _ _ => dts_nil) (fun _ _ _ _ _ => de_ix (dv 2) (de_op do_mod (de_callTy dc_int T.int (da_cons (de_op do_add (dv 3) (de_op do_mul (dv 4) (dv 8))) da_nil)) de_int))))
      (dss_cons (ds_if (Dw.pt (dw_and (dt_cmp do_lt (dv 1) de_int) (dw_and1 (dt_cmp do_eq (de_call (ok_take A1.fn T) hr1 A1.mg A1.fn.kp A1.bd (da_cons (dv 0) (da_cons de_int da_nil))) de_int))))
        (dss_one (ds_ret (de_call (ok_mixed A3.fn T A1) hr A3.mg A3.fn.kp A3.bd (da_cons (dv 0) (da_cons (de_lc (own := [("_law_k", 8)]) rfl nd (di_range T.range (dv 1)) (blkOk_by (N := nTags) (sc := defScope sTags) (by decide +kernel)) (fun _ _ _ _ _ => dg_name (i := 8) nd) (fun _ _ _ _ _ => dts_nil) (fun _ _ _ _ _ => de_join de_str (de_slice (dv 5) dp_none (dp_some (de_op do_add (dv 8) de_int))))) da_nil))))) dss_nil)
      (dss_cons (ds_set (i := 6) nd (de_join de_str (de_lc (own := [("_law_turn", 9)]) rfl nd (di_range T.range (de_call (ok_of A2.fn T A1) hr A2.mg A2.fn.kp A2.bd (da_cons (dv 0) (da_cons (de_lst (da_cons de_int (da_cons de_int (da_cons de_int (da_cons de_int (da_cons de_int da_nil)))))) da_nil)))) (blkOk_by (N := nTags) (sc := defScope sTags) (by decide +kernel)) (fun _ _ _ _ _ => dg_name (i := 9) nd) (fun _ _ _ _ _ => dts_nil) (fun _ _ _ _ _ => de_ix (dv 2) (de_call (ok_take A1.fn T) hr1 A1.mg A1.fn.kp A1.bd (da_cons (dv 0) (da_cons de_int da_nil)))))))
      (dss_cons (ds_set (i := 7) nd (de_call (ok_take A1.fn T) hr1 A1.mg A1.fn.kp A1.bd (da_cons (dv 0) (da_cons (de_op do_add (de_callB dc_lenS T.len (da_cons (dv 6) da_nil)) de_int) da_nil))))
      (dss_one (ds_ret (de_call (ok_mixed A3.fn T A1) hr A3.mg A3.fn.kp A3.bd (da_cons (dv 0) (da_cons (de_lc (own := [("_law_k", 8)]) rfl nd (di_range T.range (dv 1)) (blkOk_by (N := nTags) (sc := defScope sTags) (by decide +kernel)) (fun _ _ _ _ _ => dg_name (i := 8) nd) (fun _ _ _ _ _ => dts_nil) (fun _ _ _ _ _ => de_op do_add (de_op do_add (de_slice (dv 6) dp_none (dp_some (dv 7))) (de_ix (dv 5) (dv 8))) (de_slice (dv 6) (dp_some (dv 7)) dp_none))) da_nil)))))))))), ?_⟩
    dsimp only [dRet, dSet, dSeq, dCall, dCons, dNil, dTup, dLst, dIfS, dPar, dNext, dStar]
    refine ⟨_, rfl, 26, m' + 11 + n, rfl, by decide, by decide, by omega, fun v v0 v1 => ?_⟩
    refine ⟨_, rfl, (by show 5 ≤ sizeLine; decide), _, _, m' + 10 + n, rfl, .inr rfl, by decide, by decide, by omega, fun bd hb => ?_⟩
    obtain ⟨b, rfl, hbb⟩ : ∃ b : Nat, bd = .int (b : Int) ∧ (b = 1 ∨ b = 3 ∨ b = 7 ∨ b = 11 ∨ b = 25) := by
      simp only [List.mem_cons, List.not_mem_nil, or_false] at hb
      rcases hb with rfl | rfl | rfl | rfl | rfl
      · exact ⟨1, rfl, by simp⟩
      · exact ⟨3, rfl, by simp⟩
      · exact ⟨7, rfl, by simp⟩
      · exact ⟨11, rfl, by simp⟩
      · exact ⟨25, rfl, by simp⟩
    obtain ⟨fi, rfl⟩ : ∃ fi : Nat, v = (fi : Int) := ⟨v.toNat, by omega⟩
    refine ⟨(by show 2 ≤ sizeLine; decide), _, _, rfl, ?_⟩
    obtain ⟨N, hN, hnN, hN2⟩ : ∃ N : Nat, (if (n : Int) > 8 then (n : Int) else 8) = (N : Int) ∧ n ≤ N ∧ N ≤ 26 := by
      by_cases h : n ≤ 8
      · exact ⟨8, by rw [if_neg (by omega)]; rfl, h, by omega⟩
      · exact ⟨n, by rw [if_pos (by omega)], Nat.le_refl _, hn⟩
    refine dLc_nats N (fun k => .str (sg (ltr fi b k))) (fun R hR => ⟨_, rfl, 8, (n : Int), rfl, N, by rw [hN], by omega, hR⟩) (Nat.le_trans hN2 (by decide)) (fun k hk mm R hR => ?_) ?_
    · refine ⟨_, rfl, _, rfl, _, rfl, _, rfl, _, _, rfl, rfl, .inl ⟨by omega, by omega⟩, .inl ⟨_, rfl, _, _, rfl, rfl, (by show (0 : Int) < _; decide), ?_⟩⟩
      have e : ((fi : Int) + (b : Int) * (k : Int)) % 26 = (((fi + b * k) % 26 : Nat) : Int) := by omega
      refine ⟨_, rfl, .inr ⟨z26, _, rfl, z26_len, z26_at (by omega) (by omega), ?_⟩⟩
      rw [e, Int.toNat_natCast]
      exact hR
    · refine if_and (n < 9) (m' + 9 + n) (fun R hR => ⟨_, rfl, _, _, rfl, rfl, trivial, _, rfl, hR _ fun h => by have := of_decide_eq_true h; omega⟩)
        (fun R hR => ⟨_, rfl, 4, m' + 9 + n, rfl, by decide, by decide, by omega, fun v v0 v1 => ⟨rfl, rfl, rfl, _, rfl, hR _ _ (Nat.le_refl _)⟩⟩) (by omega) (fun m2 h2 h9 => ?_) (fun m2 h2 => ?_)
      · refine ⟨_, rfl, ?_⟩
        refine dLc_nats n (fun k => .str (pre fi b k "" N)) (fun R hR => ⟨_, rfl, n, rfl, by omega, hR⟩) (Nat.le_trans hn (by decide)) (fun k hk mm R hR => ?_) ?_
        · refine ⟨"", rfl, _, rfl, _, rfl, _, rfl, ((List.range N).map fun i => sg (ltr fi b i)).take (k + 1), .inr ?_, ?_, hR⟩
          · rw [show ((k : Int) + 1) = ((k + 1 : Nat) : Int) by omega, cutD_nat, List.map_take, List.map_map]
            rfl
          · exact small_join N (k + 1) (by omega) _
        · refine ⟨_, _, m2 - n, rfl, .inr rfl, ?_, ?_, fun l' hl' => ?_⟩
          · simp; omega
          · simp; omega
          · obtain ⟨ts, h1, h3⟩ := perm_str (l := l') (us := (List.range n).map fun k => pre fi b k "" N) (by rw [List.map_map]; exact hl')
            rw [h3]
            exact q ts _ (by omega) ((pre_nms rfl hnN hn).perm h1)
      · refine ⟨"", rfl, ?_⟩
        refine ⟨_, rfl, (by show 5 ≤ sizeLine; decide), _, _, m2 - 1, rfl, .inr rfl, by decide, by decide, by omega, fun jd hj => ?_⟩
        obtain ⟨j, rfl, hjj⟩ : ∃ j : Nat, jd = .int (j : Int) ∧ j ≤ 7 := by
          simp only [List.mem_cons, List.not_mem_nil, or_false] at hj
          rcases hj with rfl | rfl | rfl | rfl | rfl
          · exact ⟨0, rfl, by omega⟩
          · exact ⟨0, rfl, by omega⟩
          · exact ⟨1, rfl, by omega⟩
          · exact ⟨5, rfl, by omega⟩
          · exact ⟨7, rfl, by omega⟩
        have hjl : (nats j).length = j := by simp [nats]
        refine ⟨j, rfl, by omega, by rw [hjl]; exact Nat.le_trans hjj (by decide), fun i acc mm => ∃ cs : List Nat, acc = cs.map (fun c => D.str (sg c)) ∧ cs.length = i ∧ (∀ c ∈ cs, 97 ≤ c ∧ c ≤ 122) ∧ m2 - 1 ≤ mm + i, ⟨[], rfl, rfl, by simp, by omega⟩, ?_, ?_⟩
        · rintro i d acc mm hd ⟨cs, rfl, hl, hlow, hmm⟩
          have hi : i < j := by
            obtain ⟨h1, _⟩ := List.getElem?_eq_some_iff.mp hd
            rw [hjl] at h1; exact h1
          refine ⟨_, rfl, _, rfl, 26, mm - 1, rfl, by decide, by decide, by omega, fun v v0 v1 => ⟨v, rfl, .inr ⟨z26, _, rfl, z26_len, z26_at v0 v1, ?_⟩⟩⟩
          refine ⟨cs ++ [97 + v.toNat], by rw [List.map_append]; rfl, by rw [List.length_append, hl]; rfl, fun c hc => ?_, by omega⟩
          rcases List.mem_append.mp hc with hc | hc
          · exact hlow c hc
          · rw [List.mem_singleton] at hc; omega
        · rintro acc mm ⟨cs, rfl, hl, hlow, hmm⟩
          rw [hjl] at hl hmm
          have hcz := join_sg (e := "") rfl cs
          refine ⟨cs.map sg, .inr (by rw [List.map_map]; rfl), ?_, ?_⟩
          · rw [sum_ones, show ("" : Str).length = 0 from rfl, Nat.mul_zero]; omega
          · generalize hz : Txt.join "" (cs.map sg) = z at hcz
            have hzl : z.length = j := by rw [← cp_len, hcz, hl]
            have hz1 : z.length ≤ sizeLine := by rw [hzl]; exact Nat.le_trans hjj (by decide)
            refine ⟨_, rfl, _, rfl, z, rfl, hz1, _, mm - 1, rfl, by omega, by omega, by omega, fun a a0 a1 => ?_⟩
            obtain ⟨at1, rfl⟩ : ∃ at1 : Nat, a = (at1 : Int) := ⟨a.toNat, by omega⟩
            have hat : at1 ≤ z.length := by omega
            have hc1 : ∀ lo hi, (cutS z lo hi).length ≤ 7 := fun lo hi => Nat.le_trans (cutS_length z lo hi) (by omega)
            have s1 : ∀ x : Nat, x ≤ 100 → x ≤ sizeLine := fun x h => Nat.le_of_lt (small1000 (by omega))
            refine ⟨_, rfl, ?_⟩
            refine dLc_nats n (fun k => .str (put fi b z at1 k)) (fun R hR => ⟨_, rfl, n, rfl, by omega, hR⟩) (Nat.le_trans hn (by decide)) (fun k hk mm R hR => ?_) ?_
            · have hsg : (sg (ltr fi b k)).length = 1 := rfl
              have hal : ∀ x y : Str, (x ++ y).length = x.length + y.length := fun x y => by
                rw [← cp_len, cp_app, List.length_append, cp_len, cp_len]
              have h7 := hc1 none (some (at1 : Int))
              have h8 := hc1 (some (at1 : Int)) none
              refine ⟨_, rfl, _, rfl, _, rfl, hz1, _, rfl, _, rfl, _, rfl, .inl ⟨_, .str (sg (ltr fi b k)), .inl rfl, atI_nat (by rw [List.getElem?_map, List.getElem?_range (show k < N by omega)]; rfl), ?_⟩⟩
              refine ⟨s1 _ (by rw [hsg]; omega), _, rfl, _, rfl, _, rfl, hz1, ?_⟩
              exact ⟨s1 _ (by rw [hal, hsg]; omega), hR⟩
            · refine ⟨_, _, mm - 1 - n, rfl, .inr rfl, ?_, ?_, fun l' hl' => ?_⟩
              · simp; omega
              · simp; omega
              · obtain ⟨ts, h1, h3⟩ := perm_str (l := l') (us := (List.range n).map fun k => put fi b z at1 k) (by rw [List.map_map]; exact hl')
                rw [h3]
                exact q ts _ (by omega) ((put_nms hbb hat (by omega) (by rw [hcz]; exact hlow) hn).perm h1)
end
end TC
namespace TC
open PySem PySem.Spec PyProof.Rows L2 RZ
variable [Cl]
abbrev sIsNumber : Stmt := top 1
abbrev sNumeral : Stmt := top 2
abbrev sName : Stmt := top 14
abbrev sOutside : Stmt := top 15
abbrev sForgotten : Stmt := top 16
abbrev sTouched : Stmt := top 17
abbrev sCapped : Stmt := top 18
section
variable {P : Program} {w : World} {K : PySem.W.Frag} {mg : Str → Option Value} {base : Heap}
/-! ### NAMEs -/
def low (c : Nat) : Bool := decide (97 ≤ c) && decide (c ≤ 122)
def isNm : D → Bool
  | .str z => decide (0 < z.length) && (cp z).all low
  | _ => false
def okB : D → Bool
  | .str z => decide (z.length ≤ sizeLine)
  | d => noUrn d
theorem okB_no {d : D} (h : okB d = true) : noUrn d = true := by cases d <;> first | rfl | cases h
def spName : DSp := fun ds m Q => ∃ d, ds = [d] ∧ okB d = true ∧ Q (.bl (isNm d)) m
theorem scName : FnScope ["thing", "letter"] ["thing"] (defScope sName) := ⟨rfl, rfl, rfl, by decide +kernel, rfl, by decide +kernel, by decide +kernel⟩
theorem lt1 (a b : Nat) : decide ([a] < [b]) = decide (a < b) := by
  have : ([a] < [b]) ↔ a < b := by
    constructor
    · intro h
      cases h with
      | rel h => exact h
      | cons h => cases h
    · exact fun h => List.Lex.rel h
  exact decide_eq_decide.mpr this
theorem ok_name {f : Addr} {fd : FuncData} (F : Fun K "is_name" "is_name" sName f fd) (T : Blt mg) : FnOk P w K mg base CX0 1 f fd ["thing"] (spD spName) := by
  refine fnD F scName ?_ fun cdv A outer s H E ds m Q' hr h => ?_
  · rintro ds m Q ⟨d, rfl, _⟩
    rfl
  · obtain ⟨d, rfl, hd, q⟩ := h
    have nd := scName.nd
    refine ⟨_, (dss_cons (ds_if (Dw.pt (dw_or (dt_not (dt_val (de_isi (a := "str") T.isinstance (dv 0) T.str))) (dw_or1 (dt_cmp do_eq (dv 0) de_str))))
 (dss_one (ds_ret de_bl))
 dss_nil)
 (dss_one (ds_ret (de_callB (dc_all rfl) T.all (da_cons (de_lc (own := [("letter", 1)]) rfl nd (di_var 0 (dv 0)) (blkOk_by (N := ["thing", "letter"]) (sc := defScope sName) (by decide +kernel)) (fun _ _ _ _ _ => dg_name (i := 1) nd) (fun _ _ _ _ _ => dts_nil) (fun _ _ _ _ _ => (de_chain do_leS do_leS de_str (dv 1) de_str))) da_nil))))), ?_⟩
    cases d with
    | str z =>
      have hz : z.length ≤ sizeLine := of_decide_eq_true hd
      refine ⟨_, rfl, rfl, _, rfl, iteF ⟨_, rfl, rfl, rfl, rfl, _, rfl, ?_⟩⟩
      have hv : (fv (.str z) = fv (.str "")) ↔ z = "" := ⟨fun h => by injection h, fun h => by rw [h]⟩
      refine ite2 (fun h => ?_) (fun h => ?_)
      · have h1 : z = "" := hv.mp (of_decide_eq_true h)
        subst h1
        exact q
      · have h1 : ¬ z = "" := fun e => h (decide_eq_true (hv.mpr e))
        have h0 : 0 < z.length := by
          rcases Nat.eq_zero_or_pos z.length with e | e
          · refine absurd (cp_inj ?_) h1
            have := cp_len z
            rw [e] at this
            rw [List.length_eq_zero_iff.mp this]
            rfl
          · exact e
        dsimp only [dRet, dSet, dSeq, dCall, dCons, dNil, dTup, dLst, dIfS, dPar, dNext, dStar]
        refine dLc_pure (signsD z) (fun _ => true) (fun d => .bl (match d with | .str y => (cp y).all low | _ => false)) (fun R hR => ⟨_, rfl, hR⟩) (by simpa [signsD, Str.length] using hz) (fun d hd mm R hR => hR) (fun d hd _ mm R hR => ?_) ?_
        · obtain ⟨c, hc, rfl⟩ := List.mem_map.mp hd
          refine ⟨_, rfl, ?_⟩
          refine ⟨_, rfl, ?_⟩
          have e : (match D.str ⟨#[c]⟩ with | .str y => (cp y).all low | _ => false) = (decide (97 ≤ c) && decide (c ≤ 122)) := by
            show ([c].all low) = _
            simp [low]
          rw [e] at hR
          by_cases h97 : 97 ≤ c
          · have e1 : (!decide (([c] : List Nat) < [97])) = true := by rw [lt1]; simp; omega
            show if (!decide (([c] : List Nat) < [97])) = true then _ else _
            rw [e1]
            refine iteT ?_
            show R (.bl (!decide (([122] : List Nat) < [c]))) mm
            rw [lt1]
            rw [decide_eq_true h97, Bool.true_and] at hR
            have e2 : (!decide (122 < c)) = decide (c ≤ 122) := by
              by_cases h : c ≤ 122
              · rw [decide_eq_true h, decide_eq_false (by omega)]; rfl
              · rw [decide_eq_false h, decide_eq_true (by omega)]; rfl
            rw [e2]
            exact hR
          · have e1 : (!decide (([c] : List Nat) < [97])) = false := by rw [lt1]; simp; omega
            show if (!decide (([c] : List Nat) < [97])) = true then _ else _
            rw [e1]
            refine iteF ?_
            rw [decide_eq_false h97, Bool.false_and] at hR
            exact hR
        · refine ⟨(cp z).map low, ?_, ?_⟩
          · rw [show (signsD z).filter (fun _ => true) = signsD z from List.filter_eq_self.mpr (by simp)]
            show [D.lst ((z.cps.toList.map fun c => D.str ⟨#[c]⟩).map _)] = _
            rw [List.map_map, List.map_map]
            have : ∀ c : Nat, (cp ⟨#[c]⟩).all low = low c := fun c => by show [c].all low = low c; simp
            simp [Function.comp_def, this, cp]
          · have e : ((cp z).map low).all (fun b => b) = (cp z).all low := by rw [List.all_map]; rfl
            rw [e]
            have : isNm (.str z) = (cp z).all low := by show (decide (0 < z.length) && (cp z).all low) = _; rw [decide_eq_true h0, Bool.true_and]
            rw [← this]
            exact q
    | urn => cases hd
    | ext => cases hd
    | obj c l => cases hd
    | cell p l => cases hd
    | _ => exact ⟨_, rfl, rfl, _, rfl, iteT (iteT q)⟩
/-! ### numerals -/
def dig (c : Nat) : Bool := decide (48 ≤ c) && decide (c ≤ 57)
def isNum (z : Str) : Bool := decide (0 < z.length) && (cp z).all dig && (decide (z = "0") || !decide ((cp z).head? = some 48))
def spNumeral : DSp := fun ds m Q => ∃ z, ds = [.str z] ∧ z.length ≤ sizeLine ∧ Q (.bl (isNum z)) m
theorem scNumeral : FnScope ["text", "sign"] ["text"] (defScope sNumeral) := ⟨rfl, rfl, rfl, by decide +kernel, rfl, by decide +kernel, by decide +kernel⟩
theorem ok_numeral {f : Addr} {fd : FuncData} (F : Fun K "is_numeral" "is_numeral" sNumeral f fd) (T : Blt mg) : FnOk P w K mg base CX0 1 f fd ["text"] (spD spNumeral) := by
  refine fnD F scNumeral ?_ fun cdv A outer s H E ds m Q' hr h => ?_
  · rintro ds m Q ⟨d, rfl, _⟩
    rfl
  · obtain ⟨z, rfl, hz, q⟩ := h
    have nd := scNumeral.nd
    refine ⟨_, (dss_cons (ds_if (Dw.pt (dw_or (dt_cmp do_eq (dv 0) de_str) (dw_or1 (dt_not (dt_val (de_callB (dc_all rfl) T.all (da_cons (de_lc (own := [("sign", 1)]) rfl nd (di_var 0 (dv 0)) (blkOk_by (N := ["text", "sign"]) (sc := defScope sNumeral) (by decide +kernel)) (fun _ _ _ _ _ => dg_name (i := 1) nd) (fun _ _ _ _ _ => dts_nil) (fun _ _ _ _ _ => (de_chain do_leS do_leS de_str (dv 1) de_str))) da_nil)))))))
 (dss_one (ds_ret de_bl))
 dss_nil)
 (dss_one (ds_ret (de_or (de_cmp do_eq (dv 0) de_str) (de_one (de_cmp do_ne (de_ix (dv 0) de_int) de_str)))))), ?_⟩
    have hv : ∀ y : Str, (fv (.str z) = fv (.str y)) ↔ z = y := fun y => ⟨fun h => by injection h, fun h => by rw [h]⟩
    refine ⟨_, rfl, rfl, rfl, rfl, _, rfl, ?_⟩
    refine ite2 (fun h => ?_) (fun h => ?_)
    · have h1 : z = "" := (hv _).mp (of_decide_eq_true h)
      subst h1
      exact iteT q
    · have h1 : ¬ z = "" := fun e => h (decide_eq_true ((hv _).mpr e))
      have h0 : 0 < z.length := by
        rcases Nat.eq_zero_or_pos z.length with e | e
        · refine absurd (cp_inj ?_) h1
          have := cp_len z
          rw [e] at this
          rw [List.length_eq_zero_iff.mp this]
          rfl
        · exact e
      dsimp only [dNot, dB, dCall, dCons, dNil]
      refine dLc_pure (signsD z) (fun _ => true) (fun d => .bl (match d with | .str y => (cp y).all dig | _ => false)) (fun R hR => ⟨_, rfl, hR⟩) (by simpa [signsD, Str.length] using hz) (fun d hd mm R hR => hR) (fun d hd _ mm R hR => ?_) ?_
      · obtain ⟨c, hc, rfl⟩ := List.mem_map.mp hd
        refine ⟨_, rfl, ?_⟩
        refine ⟨_, rfl, ?_⟩
        have e : (match D.str ⟨#[c]⟩ with | .str y => (cp y).all dig | _ => false) = (decide (48 ≤ c) && decide (c ≤ 57)) := by
          show ([c].all dig) = _
          simp [dig]
        rw [e] at hR
        by_cases h97 : 48 ≤ c
        · have e1 : (!decide (([c] : List Nat) < [48])) = true := by rw [lt1]; simp; omega
          show if (!decide (([c] : List Nat) < [48])) = true then _ else _
          rw [e1]
          refine iteT ?_
          show R (.bl (!decide (([57] : List Nat) < [c]))) mm
          rw [lt1]
          rw [decide_eq_true h97, Bool.true_and] at hR
          have e2 : (!decide (57 < c)) = decide (c ≤ 57) := by
            by_cases h : c ≤ 57
            · rw [decide_eq_true h, decide_eq_false (by omega)]; rfl
            · rw [decide_eq_false h, decide_eq_true (by omega)]; rfl
          rw [e2]
          exact hR
        · have e1 : (!decide (([c] : List Nat) < [48])) = false := by rw [lt1]; simp; omega
          show if (!decide (([c] : List Nat) < [48])) = true then _ else _
          rw [e1]
          refine iteF ?_
          rw [decide_eq_false h97, Bool.false_and] at hR
          exact hR
      · refine ⟨(cp z).map dig, ?_, ?_⟩
        · rw [show (signsD z).filter (fun _ => true) = signsD z from List.filter_eq_self.mpr (by simp)]
          show [D.lst ((z.cps.toList.map fun c => D.str ⟨#[c]⟩).map _)] = _
          rw [List.map_map, List.map_map]
          have : ∀ c : Nat, (cp ⟨#[c]⟩).all dig = dig c := fun c => by show [c].all dig = dig c; simp
          simp [Function.comp_def, this, cp]
        · have e : ((cp z).map dig).all (fun b => b) = (cp z).all dig := by rw [List.all_map]; rfl
          rw [e]
          refine ⟨_, rfl, ?_⟩
          have en : isNum z = ((cp z).all dig && (decide (z = "0") || !decide ((cp z).head? = some 48))) := by show (decide (0 < z.length) && _ && _) = _; rw [decide_eq_true h0, Bool.true_and]
          rw [en] at q
          cases hd : (cp z).all dig with
          | false =>
            refine iteT ?_
            rw [hd] at q
            exact q
          | true =>
            refine iteF ?_
            rw [hd, Bool.true_and] at q
            refine ⟨_, rfl, rfl, rfl, rfl, _, rfl, ?_⟩
            refine ite2 (fun h => ?_) (fun h => ?_)
            · have e0 : z = "0" := (hv _).mp (of_decide_eq_true h)
              rw [decide_eq_true e0, Bool.true_or] at q
              exact q
            · have e0 : ¬ z = "0" := fun e => h (decide_eq_true ((hv _).mpr e))
              rw [decide_eq_false e0, Bool.false_or] at q
              obtain ⟨c, r, hc⟩ : ∃ c r, cp z = c :: r := by
                cases e : cp z with
                | nil => have := cp_len z; rw [e] at this; simp at this; omega
                | cons c r => exact ⟨c, r, rfl⟩
              have hat : atI z.cps.toList 0 = some c := by
                show atI (cp z) 0 = some c
                rw [hc]
                unfold atI ixN
                rw [if_pos (by decide), if_pos (by simp)]
                rfl
              refine ⟨_, rfl, _, rfl, .inr ⟨_, c, rfl, hz, hat, rfl, rfl, rfl, ?_⟩⟩
              rw [hc] at q
              have e3 : (if true = true then !decide (fv (.str ⟨#[c]⟩) = fv (.str "0")) else decide (fv (.str ⟨#[c]⟩) = fv (.str "0"))) = !decide ((c :: r).head? = some 48) := by
                rw [if_pos rfl]
                congr 1
                refine decide_eq_decide.mpr ⟨fun e => ?_, fun e => ?_⟩
                · injection e with e
                  have : cp (⟨#[c]⟩ : Str) = cp ("0" : Str) := by rw [e]
                  have h48 : cp ("0" : Str) = [48] := by rfl
                  rw [h48] at this
                  have : c = 48 := by injection this
                  rw [this]; rfl
                · have : c = 48 := by simpa using e
                  rw [this]; rfl
              rw [e3]
              exact q
end
end TC
namespace TC
open PySem PySem.Spec PyProof.Rows L2 RZ
variable [Cl]
abbrev sIsStep : Stmt := top 20
abbrev sRbs : Stmt := top 21
section
variable {P : Program} {w : World} {K : PySem.W.Frag} {mg : Str → Option Value} {base : Heap}
def spOutside : DSp := fun ds m Q => ∃ a b row names, ds = [a, b] ∧ Sq a row ∧ Sq b names ∧ row.all flatD = true ∧ names.all flatD = true ∧ row.length ≤ sizeLine ∧ Q (.tup (outD row names)) m
theorem scOutside : FnScope ["row", "names", "name"] ["row", "names"] (defScope sOutside) := ⟨rfl, rfl, rfl, by decide +kernel, rfl, by decide +kernel, by decide +kernel⟩
theorem map_idD (l : List D) : l.map (fun d => d) = l := by simp
theorem ok_outside {f : Addr} {fd : FuncData} (F : Fun K "outside" "outside" sOutside f fd) (T : Blt mg) : FnOk P w K mg base CX0 1 f fd ["row", "names"] (spD spOutside) := by
  refine fnD F scOutside ?_ fun cdv A outer s H E ds m Q' hr h => ?_
  · rintro ds m Q ⟨a, b, row, names, rfl, _⟩
    rfl
  · obtain ⟨a, b, row, names, rfl, ha, hb, fr, fn, hl, q⟩ := h
    have nd := scOutside.nd
    rcases ha with rfl | rfl
    · refine ⟨_, dss_one (ds_ret (de_callTy dc_tuple T.tuple (da_cons (de_lc (own := [("name", 2)]) rfl nd (di_tup (dv 0) (pi_tup pe_self)) (blkOk_by (N := ["row", "names", "name"]) (sc := defScope sOutside) (by decide +kernel)) (fun _ _ _ _ _ => dg_name (i := 2) nd) (fun _ _ _ _ _ => dts_one (dt_cmp do_notin (dv 2) (dv 1))) (fun _ _ _ _ _ => dv 2)) da_nil))), ?_⟩
      dsimp only [dRet, dSet, dSeq, dCall, dCons, dNil, dTup, dLst, dIfS, dPar, dNext, dStar]
      refine dLc_pure row (fun d => !inV (fv d) (names.map fv)) (fun d => d) (fun R hR => ⟨_, rfl, _, rfl, hR⟩) hl (fun d hd mm R hR => ⟨_, rfl, _, rfl, names, hb.symm, List.all_eq_true.mp fr d hd, fn, _, rfl, hR⟩) (fun d hd _ mm R hR => ⟨_, rfl, hR⟩) ⟨_, .inl rfl, ?_⟩
      rw [map_idD]
      exact q
    · refine ⟨_, dss_one (ds_ret (de_callTy dc_tuple T.tuple (da_cons (de_lc (own := [("name", 2)]) rfl nd (di_lst (dv 0) (pi_list pe_self)) (blkOk_by (N := ["row", "names", "name"]) (sc := defScope sOutside) (by decide +kernel)) (fun _ _ _ _ _ => dg_name (i := 2) nd) (fun _ _ _ _ _ => dts_one (dt_cmp do_notin (dv 2) (dv 1))) (fun _ _ _ _ _ => dv 2)) da_nil))), ?_⟩
      dsimp only [dRet, dSet, dSeq, dCall, dCons, dNil, dTup, dLst, dIfS, dPar, dNext, dStar]
      refine dLc_pure row (fun d => !inV (fv d) (names.map fv)) (fun d => d) (fun R hR => ⟨_, rfl, _, rfl, hR⟩) hl (fun d hd mm R hR => ⟨_, rfl, _, rfl, names, hb.symm, List.all_eq_true.mp fr d hd, fn, _, rfl, hR⟩) (fun d hd _ mm R hR => ⟨_, rfl, hR⟩) ⟨_, .inl rfl, ?_⟩
      rw [map_idD]
      exact q
def spForgotten : DSp := fun ds m Q => ∃ a b row, ds = [a, b] ∧ Sq a row ∧ flatD b = true ∧ row.all flatD = true ∧ row.length ≤ sizeLine ∧ Q (.tup (outD row [b])) m
theorem scForgotten : FnScope ["row", "name"] ["row", "name"] (defScope sForgotten) := ⟨rfl, rfl, rfl, by decide +kernel, rfl, by decide +kernel, by decide +kernel⟩
theorem ok_forgotten {f fO : Addr} {fd fdO : FuncData} (F : Fun K "forgotten" "forgotten" sForgotten f fd) (T : Blt mg) (O : At K mg "outside" sOutside ["row", "names"] fO fdO) : FnOk P w K mg base CX0 2 f fd ["row", "name"] (spD spForgotten) := by
  refine fnD F scForgotten ?_ fun cdv A outer s H E ds m Q' hr h => ?_
  · rintro ds m Q ⟨a, b, row, rfl, _⟩
    rfl
  · obtain ⟨a, b, row, rfl, ha, hb, fr, hl, q⟩ := h
    refine ⟨_, dss_one (ds_ret (de_call (ok_outside O.fn T) hr O.mg O.fn.kp O.bd (da_cons (dv 0) (da_cons (de_tup (da_cons (dv 1) da_nil)) da_nil)))), ?_⟩
    dsimp only [dRet, dSet, dSeq, dCall, dCons, dNil, dTup, dLst, dIfS, dPar, dNext, dStar]
    exact ⟨_, rfl, _, rfl, (by show 1 ≤ sizeLine; decide), a, _, row, [b], rfl, ha, .inl rfl, fr, by simp [hb], hl, q⟩
def spTouched : DSp := fun ds m Q => ∃ a b row, ds = [a, b] ∧ Sq a row ∧ flatD b = true ∧ row.all flatD = true ∧ row.length < sizeLine ∧ Q (.tup (b :: outD row [b])) m
theorem scTouched : FnScope ["row", "name"] ["row", "name"] (defScope sTouched) := ⟨rfl, rfl, rfl, by decide +kernel, rfl, by decide +kernel, by decide +kernel⟩
theorem ok_touched {f fG fO : Addr} {fd fdG fdO : FuncData} (F : Fun K "touched" "touched" sTouched f fd) (T : Blt mg) (G : At K mg "forgotten" sForgotten ["row", "name"] fG fdG) (O : At K mg "outside" sOutside ["row", "names"] fO fdO) : FnOk P w K mg base CX0 3 f fd ["row", "name"] (spD spTouched) := by
  refine fnD F scTouched ?_ fun cdv A outer s H E ds m Q' hr h => ?_
  · rintro ds m Q ⟨a, b, row, rfl, _⟩
    rfl
  · obtain ⟨a, b, row, rfl, ha, hb, fr, hl, q⟩ := h
    refine ⟨_, dss_one (ds_ret (de_tup (da_cons (dv 1) (da_star (de_call (ok_forgotten G.fn T O) hr G.mg G.fn.kp G.bd (da_cons (dv 0) (da_cons (dv 1) da_nil))) da_nil)))), ?_⟩
    dsimp only [dRet, dSet, dSeq, dCall, dCons, dNil, dTup, dLst, dIfS, dPar, dNext, dStar]
    refine ⟨_, rfl, _, rfl, _, rfl, a, b, row, rfl, ha, hb, fr, Nat.le_of_lt hl, _, .inl rfl, ?_, ?_⟩
    · have := outD_le row [b]
      simp only [List.length_cons, List.append_nil]
      omega
    · rw [List.append_nil]
      exact q
def spCapped : DSp := fun ds m Q => ∃ a row n, ds = [a, .int n] ∧ Sq a row ∧ Q (.tup (cutD row none (some n))) m
theorem scCapped : FnScope ["row", "number"] ["row", "number"] (defScope sCapped) := ⟨rfl, rfl, rfl, by decide +kernel, rfl, by decide +kernel, by decide +kernel⟩
theorem ok_capped {f : Addr} {fd : FuncData} (F : Fun K "capped" "capped" sCapped f fd) (T : Blt mg) : FnOk P w K mg base CX0 1 f fd ["row", "number"] (spD spCapped) := by
  refine fnD F scCapped ?_ fun cdv A outer s H E ds m Q' hr h => ?_
  · rintro ds m Q ⟨a, row, n, rfl, _⟩
    rfl
  · obtain ⟨a, row, n, rfl, ha, q⟩ := h
    refine ⟨_, dss_one (ds_ret (de_callTy dc_tuple T.tuple (da_cons (de_slice (dv 0) dp_none (dp_some (dv 1))) da_nil))), ?_⟩
    dsimp only [dRet, dSet, dSeq, dCall, dCons, dNil, dTup, dLst, dIfS, dPar, dNext, dStar]
    refine ⟨_, rfl, _, rfl, _, rfl, ?_⟩
    rcases ha with rfl | rfl
    · exact ⟨_, .inr rfl, q⟩
    · exact ⟨_, .inl rfl, q⟩


/-- the program's defs about NAMEs, ROWs and numbers -/
structure RowsF (K : PySem.W.Frag) (mg : Str → Option Value) where
  (fa fb fc fd fe ff fg fh fi : Addr)
  (da db dc dd de df dg dh di : FuncData)
  number : At K mg "is_number" sIsNumber ["thing"] fa da
  numeral : At K mg "is_numeral" sNumeral ["text"] fb db
  name : At K mg "is_name" sName ["thing"] fc dc
  outside : At K mg "outside" sOutside ["row", "names"] fd dd
  forgotten : At K mg "forgotten" sForgotten ["row", "name"] fe de
  touched : At K mg "touched" sTouched ["row", "name"] ff df
  capped : At K mg "capped" sCapped ["row", "number"] fg dg
  isstep : At K mg "is_step" sIsStep ["kind", "what"] fh dh
  rbs : At K mg "row_behind_step" sRbs ["kind", "what", "row"] fi di
def isInt : D → Bool
  | .int _ => true
  | _ => false
def spNumber : DSp := fun ds m Q => ∃ d, ds = [d] ∧ noUrn d = true ∧ Q (.bl (isInt d)) m
theorem scIsNumber : FnScope ["thing"] ["thing"] (defScope sIsNumber) := ⟨rfl, rfl, rfl, by decide +kernel, rfl, by decide +kernel, by decide +kernel⟩
theorem ok_number {f : Addr} {fd : FuncData} (F : Fun K "is_number" "is_number" sIsNumber f fd) (T : Blt mg) : FnOk P w K mg base CX0 1 f fd ["thing"] (spD spNumber) := by
  refine fnD F scIsNumber ?_ fun cdv A outer s H E ds m Q' hr h => ?_
  · rintro ds m Q ⟨d, rfl, _⟩
    rfl
  · obtain ⟨d, rfl, hd, q⟩ := h
    have nd := scIsNumber.nd
    refine ⟨_, (dss_one (ds_ret (de_and (de_isi (a := "int") T.isinstance (dv 0) T.int) (de_one (de_not (de_isi (a := "bool") T.isinstance (dv 0) T.bool)))))), ?_⟩
    refine ⟨_, rfl, hd, _, rfl, ?_⟩
    cases d with
    | int i => exact iteT ⟨_, rfl, rfl, _, rfl, q⟩
    | bl b => exact iteT ⟨_, rfl, rfl, _, rfl, q⟩
    | non => exact iteF q
    | str z => exact iteF q
    | lst l => exact iteF q
    | tup l => exact iteF q
    | obj c l => cases hd
    | urn => cases hd
    | ext => cases hd
    | cell p l => cases hd
/-- kind and what of a Step -/
def stepB (k : Str) : D → Bool
  | .int n => decide (k = "cap") && decide (1 ≤ n)
  | .str z => (decide (k = "touch") || decide (k = "forget")) && isNm (.str z) && decide (z.length ≤ sizeLine)
  | _ => false
theorem stepB_cases {k : Str} {d : D} (h : stepB k d = true) : (k = "cap" ∧ ∃ n, d = .int n ∧ 1 ≤ n) ∨ ((k = "touch" ∨ k = "forget") ∧ ∃ z, d = .str z ∧ isNm (.str z) = true ∧ z.length ≤ sizeLine) := by
  cases d with
  | int n =>
    simp only [stepB, Bool.and_eq_true, decide_eq_true_eq] at h
    exact .inl ⟨h.1, n, rfl, h.2⟩
  | str z =>
    simp only [stepB, Bool.and_eq_true, Bool.or_eq_true, decide_eq_true_eq] at h
    exact .inr ⟨h.1.1, z, rfl, h.1.2, h.2⟩
  | _ => cases h
def spIsStep : DSp := fun ds m Q => ∃ k d, ds = [.str k, d] ∧ stepB k d = true ∧ Q (.bl true) m
theorem scIsStep : FnScope ["kind", "what"] ["kind", "what"] (defScope sIsStep) := ⟨rfl, rfl, rfl, by decide +kernel, rfl, by decide +kernel, by decide +kernel⟩
theorem ok_isstep (R : RowsF K mg) (T : Blt mg) : FnOk P w K mg base CX0 2 R.fh R.dh ["kind", "what"] (spD spIsStep) := by
  refine fnD R.isstep.fn scIsStep ?_ fun cdv A outer s H E ds m Q' hr h => ?_
  · rintro ds m Q ⟨k, d, rfl, _⟩
    rfl
  · obtain ⟨k, d, rfl, hd, q⟩ := h
    have nd := scIsStep.nd
    refine ⟨_, (dss_cons (ds_if (dt_cmp do_eq (dv 0) de_str)
 (dss_one (ds_ret (de_and (de_call (ok_number R.number.fn T) (hr.mono (by decide)) R.number.mg R.number.fn.kp R.number.bd (da_cons (dv 1) da_nil)) (de_one (de_cmp do_ge (dv 1) de_int)))))
 dss_nil)
 (dss_one (ds_ret (de_and (de_cmp do_in (dv 0) (de_tup (da_cons de_str (da_cons de_str da_nil)))) (de_one (de_call (ok_name R.name.fn T) (hr.mono (by decide)) R.name.mg R.name.fn.kp R.name.bd (da_cons (dv 1) da_nil))))))), ?_⟩
    rcases stepB_cases hd with ⟨rfl, n, rfl, hn⟩ | ⟨hk, z, rfl, hz, hl⟩
    · refine ⟨_, rfl, rfl, rfl, rfl, _, rfl, iteT ?_⟩
      refine ⟨_, rfl, _, rfl, rfl, true, rfl, iteT ?_⟩
      refine ⟨_, rfl, _, _, rfl, rfl, trivial, ?_⟩
      show Q' (.bl (decide (n ≥ 1))) m
      rw [decide_eq_true (show n ≥ 1 from hn)]
      exact q
    · rcases hk with rfl | rfl
      · refine ⟨_, rfl, rfl, rfl, rfl, _, rfl, iteF ?_⟩
        refine ⟨_, rfl, (by show 2 ≤ sizeLine; decide), _, .inr rfl, rfl, rfl, true, rfl, iteT ?_⟩
        refine ⟨_, rfl, _, rfl, decide_eq_true hl, ?_⟩
        rw [hz]; exact q
      · refine ⟨_, rfl, rfl, rfl, rfl, _, rfl, iteF ?_⟩
        refine ⟨_, rfl, (by show 2 ≤ sizeLine; decide), _, .inr rfl, rfl, rfl, true, rfl, iteT ?_⟩
        refine ⟨_, rfl, _, rfl, decide_eq_true hl, ?_⟩
        rw [hz]; exact q
/-- what a Step makes of a ROW -/
def stepR (k : Str) (d : D) (l : List D) : List D := match d with
  | .int n => cutD l none (some n)
  | d => if k = "touch" then d :: outD l [d] else outD l [d]
def spRbs : DSp := fun ds m Q => ∃ k d a row, ds = [.str k, d, a] ∧ stepB k d = true ∧ Sq a row ∧ row.all flatD = true ∧ row.length < sizeLine ∧ Q (.tup (stepR k d row)) m
theorem scRbs : FnScope ["kind", "what", "row"] ["kind", "what", "row"] (defScope sRbs) := ⟨rfl, rfl, rfl, by decide +kernel, rfl, by decide +kernel, by decide +kernel⟩
theorem ok_rbs (R : RowsF K mg) (T : Blt mg) : FnOk P w K mg base CX0 4 R.fi R.di ["kind", "what", "row"] (spD spRbs) := by
  refine fnD R.rbs.fn scRbs ?_ fun cdv A outer s H E ds m Q' hr h => ?_
  · rintro ds m Q ⟨k, d, a, row, rfl, _⟩
    rfl
  · obtain ⟨k, d, a, row, rfl, hd, ha, hf, hl, q⟩ := h
    have nd := scRbs.nd
    refine ⟨_, (dss_cons (ds_if (dt_cmp do_eq (dv 0) de_str)
 (dss_one (ds_ret (de_call (ok_touched R.touched.fn T R.forgotten R.outside) (hr.mono (by decide)) R.touched.mg R.touched.fn.kp R.touched.bd (da_cons (dv 2) (da_cons (dv 1) da_nil)))))
 dss_nil)
 (dss_cons (ds_if (dt_cmp do_eq (dv 0) de_str)
 (dss_one (ds_ret (de_call (ok_forgotten R.forgotten.fn T R.outside) (hr.mono (by decide)) R.forgotten.mg R.forgotten.fn.kp R.forgotten.bd (da_cons (dv 2) (da_cons (dv 1) da_nil)))))
 dss_nil)
 (dss_one (ds_ret (de_call (ok_capped R.capped.fn T) (hr.mono (by decide)) R.capped.mg R.capped.fn.kp R.capped.bd (da_cons (dv 2) (da_cons (dv 1) da_nil))))))), ?_⟩
    rcases stepB_cases hd with ⟨rfl, n, rfl, hn⟩ | ⟨hk, z, rfl, hz, hzl⟩
    · refine ⟨_, rfl, rfl, rfl, rfl, _, rfl, iteF ?_⟩
      refine ⟨_, rfl, rfl, rfl, rfl, _, rfl, iteF ?_⟩
      exact ⟨_, rfl, _, rfl, _, row, n, rfl, ha, q⟩
    · rcases hk with rfl | rfl
      · refine ⟨_, rfl, rfl, rfl, rfl, _, rfl, iteT ?_⟩
        exact ⟨_, rfl, _, rfl, _, _, row, rfl, ha, rfl, hf, hl, q⟩
      · refine ⟨_, rfl, rfl, rfl, rfl, _, rfl, iteF ?_⟩
        refine ⟨_, rfl, rfl, rfl, rfl, _, rfl, iteT ?_⟩
        exact ⟨_, rfl, _, rfl, _, _, row, rfl, ha, rfl, hf, Nat.le_of_lt hl, q⟩
end
end TC
namespace TC
open PySem PySem.Spec PyProof.Rows L2 RZ
variable [Cl]
abbrev sStepI : Stmt := inClass (top 22) 0
abbrev sStepO : Stmt := inClass (top 22) 1
abbrev sStepK : Stmt := inClass (top 22) 2
abbrev sStepW : Stmt := inClass (top 22) 3
abbrev sStepC : Stmt := inClass (top 22) 5
/-- a method's def -/
structure AtM (K : PySem.W.Frag) (x qual : Str) (st : Stmt) (ps : List Str) (f : Addr) (fd : FuncData) : Prop where
  fn : Fun K x qual st f fd
  bd : Binds K fd ps []
/-- the class Step, as the top has made it -/
structure StepC (K : PySem.W.Frag) (mg : Str → Option Value) where
  mc : Value
  (pO pK pW fI fO fK fW fC : Addr)
  (dI dO dK dW dC : FuncData)
  rd : ClX.CRead K (Cl.c 0).1 mc
  cl : Cls K (Cl.c 0).1
  nK : NoAttr K (Cl.c 0).1 "_kind"
  nW : NoAttr K (Cl.c 0).1 "_what"
  fs : (Cl.c 0).2 = ([("_kind" : Str), ("_what" : Str)] : List Str)
  mgC : mg "Step" = some (.ref (Cl.c 0).1)
  mkC : Mk K (Cl.c 0).1 fI
  init : AtM K "__init__" "Step.__init__" sStepI ["self", "kind", "what"] fI dI
  ofS : SMet K (Cl.c 0).1 mc "of" pO fO
  of : AtM K "of" "Step.of" sStepO ["text"] fO dO
  kindP : PropOf K (Cl.c 0).1 "kind" pK fK
  kind : AtM K "kind" "Step.kind" sStepK ["self"] fK dK
  whatP : PropOf K (Cl.c 0).1 "what" pW fW
  what : AtM K "what" "Step.what" sStepW ["self"] fW dW
  callO : StX.CallO K (Cl.c 0).1 fC
  call : AtM K "__call__" "Step.__call__" sStepC ["self", "row"] fC dC
section
variable {K : PySem.W.Frag} {mg : Str → Option Value}
theorem StepC.f0 (S : StepC K mg) : (Cl.c 0).2[0]? = some ("_kind" : Str) := by rw [S.fs]; rfl
theorem StepC.f1 (S : StepC K mg) : (Cl.c 0).2[1]? = some ("_what" : Str) := by rw [S.fs]; rfl
theorem StepC.nd (S : StepC K mg) : (Cl.c 0).2.Nodup := by rw [S.fs]; decide +kernel
end
section
variable {P : Program} {w : World} {K : PySem.W.Frag} {mg : Str → Option Value} {base : Heap}
theorem kw_ne : ¬ (("_kind" : Str) = "_what") := by decide +kernel
def spStepI : DIn := fun ds m Q => ∃ k d, ds = [.str k, d] ∧ stepB k d = true ∧ Q [.str k, d] m
theorem scStepI : FnScope ["self", "kind", "what"] ["self", "kind", "what"] (defScope sStepI) := ⟨rfl, rfl, rfl, by decide +kernel, rfl, by decide +kernel, by decide +kernel⟩
theorem ok_stepinit (S : StepC K mg) (R : RowsF K mg) (T : Blt mg) : FnOk P w K mg base CX0 3 S.fI S.dI ["self", "kind", "what"] (spInit 0 spStepI) := by
  refine S.init.fn.ok scStepI (fun vs H Q E h => ?_) (fun cdv A outer s H vs Q E hr h => ?_)
  · obtain ⟨wd, Hb, a, dx, ds, us, m, Q', _, rfl, _, _, _, _, _, hds, _, ⟨k, d, rfl, _⟩, _⟩ := h
    have := hds.len
    show us.length + 1 = 3
    rw [this]
    rfl
  · obtain ⟨wd, Hb, a, dx, ds, us, m, Q', ⟨hb, hbH⟩, rfl, ha, hdx, ne, na, ndx, hds, hu, ⟨k, d, rfl, hk, q⟩, c⟩ := h
    have nd := scStepI.nd
    refine ⟨_, pss_cons (ps_if pt_self pss_self pss_nil) (pss_cons (ps_fld (pv 0) (pv 1) rfl) (pss_one (ps_fld (pv 0) (pv 2) rfl))), ?_⟩
    obtain ⟨v1, r1, rfl, k1, k2⟩ := hds.uncons
    obtain ⟨v2, r2, rfl, k3, k4⟩ := k2.uncons
    cases k4.unnil
    have fb : Fr wd Hb H := fun b o _ e => hbH b o e
    have sl : Sls wd H [some (.ref a), some v1, some v2] [none, some (.str k), some d] := ⟨rfl, fun i d' e => by
      match i, e with
      | 0, e => cases e
      | 1, e => cases e; exact ⟨_, rfl, k1.fr fb⟩
      | 2, e => cases e; exact ⟨_, rfl, k3.fr fb⟩
      | n + 3, e => simp at e⟩
    refine (dt_not (dt_val (de_call (ok_isstep R T) (hr.mono (by decide)) R.isstep.mg R.isstep.fn.kp R.isstep.bd (da_cons (dv 1) (da_cons (dv 2) da_nil))))).run wd _ H _ m (fun b mm => b = false ∧ mm = m) _ sl hu ?_ ?_
    · exact ⟨_, rfl, _, rfl, _, _, rfl, hk, _, rfl, rfl, rfl⟩
    · rintro b m1 H1 f1 u1 ⟨rfl, rfl⟩
      refine iteF ?_
      have na' : wd.u ≠ some a := fun z => na (.inl z)
      have nx' : wd.u ≠ some dx := fun z => ndx (.inl z)
      have ha1 : H1 a = some (.ins (Cl.c 0).1 dx []) := f1 _ _ na' ha
      have hd1 : H1 dx = some (.own a) := f1 _ _ nx' hdx
      refine ⟨_, rfl, _, rfl, a, _, dx, [], rfl, ha1, S.cl, S.nK, (by show 0 < 1000; decide), ?_⟩
      refine ⟨_, rfl, _, rfl, a, _, dx, _, rfl, upd_same, S.cl, S.nW, (by show 1 < 1000; decide), ?_⟩
      have e1 : putF "_what" v2 (putF "_kind" v1 []) = (Cl.c 0).2.zip [v1, v2] := by
        rw [S.fs]
        show (if ("_kind" : Str) = "_what" then _ else (("_kind" : Str), v1) :: putF "_what" v2 []) = _
        rw [if_neg kw_ne]
        rfl
      have w1 : ∀ (o o' : HO) (b : Addr) (x : HO), b ≠ a → wd.u ≠ some b → H b = some x → upd (upd H1 a o) a o' b = some x := fun o o' b x nb nu e => by rw [upd_ne nb, upd_ne nb]; exact f1 _ _ nu e
      have fin : ∀ o o', Fr wd Hb (upd (upd H1 a o) a o') := fun o o' b x nu e => w1 o o' b x (ne_of_none e hb) nu (hbH b x e)
      refine c [.str k, d] m1 _ [v1, v2] (fun b o nb nu e => w1 _ _ b o nb nu e) ?_ (by rw [upd_same, e1]) (.cons (k1.fr (fin _ _)) (.cons (k3.fr (fin _ _)) .nil)) q
      exact (u1.inst na).inst na
def spStepK : DSp := fun ds m Q => ∃ k d, ds = [.obj 0 [.str k, d]] ∧ Q (.str k) m
theorem scStepK : FnScope ["self"] ["self"] (defScope sStepK) := ⟨rfl, rfl, rfl, by decide +kernel, rfl, by decide +kernel, by decide +kernel⟩
theorem ok_kind (S : StepC K mg) : FnOk P w K mg base CX0 1 S.fK S.dK ["self"] (spD spStepK) := by
  refine fnD S.kind.fn scStepK ?_ fun cdv A outer s H E ds m Q' hr h => ?_
  · rintro ds m Q ⟨k, d, rfl, _⟩
    rfl
  · obtain ⟨k, d, rfl, q⟩ := h
    have nd := scStepK.nd
    refine ⟨_, (dss_one (ds_ret (de_fld 0 0 (dv 0) S.cl S.nK S.f0 S.nd))), ?_⟩
    exact ⟨_, rfl, _, _, rfl, rfl, q⟩
def spStepW : DSp := fun ds m Q => ∃ k d, ds = [.obj 0 [.str k, d]] ∧ Q d m
theorem scStepW : FnScope ["self"] ["self"] (defScope sStepW) := ⟨rfl, rfl, rfl, by decide +kernel, rfl, by decide +kernel, by decide +kernel⟩
theorem ok_what (S : StepC K mg) : FnOk P w K mg base CX0 1 S.fW S.dW ["self"] (spD spStepW) := by
  refine fnD S.what.fn scStepW ?_ fun cdv A outer s H E ds m Q' hr h => ?_
  · rintro ds m Q ⟨k, d, rfl, _⟩
    rfl
  · obtain ⟨k, d, rfl, q⟩ := h
    have nd := scStepW.nd
    refine ⟨_, (dss_one (ds_ret (de_fld 0 1 (dv 0) S.cl S.nW S.f1 S.nd))), ?_⟩
    exact ⟨_, rfl, _, _, rfl, rfl, q⟩
def spStepC : DSp := fun ds m Q => ∃ k d a row, ds = [.obj 0 [.str k, d], a] ∧ stepB k d = true ∧ Sq a row ∧ row.all flatD = true ∧ row.length < sizeLine ∧ Q (.tup (stepR k d row)) m
theorem scStepC : FnScope ["self", "row"] ["self", "row"] (defScope sStepC) := ⟨rfl, rfl, rfl, by decide +kernel, rfl, by decide +kernel, by decide +kernel⟩
theorem ok_stepcall (S : StepC K mg) (R : RowsF K mg) (T : Blt mg) : FnOk P w K mg base CX0 5 S.fC S.dC ["self", "row"] (spD spStepC) := by
  refine fnD S.call.fn scStepC ?_ fun cdv A outer s H E ds m Q' hr h => ?_
  · rintro ds m Q ⟨k, d, a, row, rfl, _⟩
    rfl
  · obtain ⟨k, d, a, row, rfl, hk, ha, hf, hl, q⟩ := h
    have nd := scStepC.nd
    refine ⟨_, (dss_one (ds_ret (de_call (ok_rbs R T) (hr.mono (by decide)) R.rbs.mg R.rbs.fn.kp R.rbs.bd (da_cons (de_fld 0 0 (dv 0) S.cl S.nK S.f0 S.nd) (da_cons (de_fld 0 1 (dv 0) S.cl S.nW S.f1 S.nd) (da_cons (dv 1) da_nil)))))), ?_⟩
    exact ⟨_, rfl, _, _, rfl, rfl, _, rfl, _, _, rfl, rfl, _, rfl, _, _, _, row, rfl, hk, ha, hf, hl, q⟩
/-- the Step with this text -/
def parseS (t : Str) : Option (Str × D) :=
  let k := (Txt.partition t " ").1
  let r := (Txt.partition t " ").2.2
  if isNum r then (match PySem.intText? r with
    | some n => if stepB k (.int n) && decide (r.length ≤ 640) then some (k, .int n) else none
    | none => none)
  else if stepB k (.str r) then some (k, .str r) else none
def spStepO : DSp := fun ds m Q => ∃ t k d, ds = [.str t] ∧ t.length ≤ sizeLine ∧ (Txt.partition t " ").2.2.length ≤ sizeLine ∧ parseS t = some (k, d) ∧ Q (.obj 0 [.str k, d]) m
theorem scStepO : FnScope ["text", "kind", "_", "rest", "what"] ["text"] (defScope sStepO) := ⟨rfl, rfl, rfl, by decide +kernel, rfl, by decide +kernel, by decide +kernel⟩
theorem ok_stepof (S : StepC K mg) (R : RowsF K mg) (T : Blt mg) : FnOk P w K mg base CX0 5 S.fO S.dO ["text"] (spD spStepO) := by
  refine fnD S.of.fn scStepO ?_ fun cdv A outer s H E ds m Q' hr h => ?_
  · rintro ds m Q ⟨t, k, d, rfl, _⟩
    rfl
  · obtain ⟨t, k, d, rfl, ht, hr2, hp, q⟩ := h
    have nd := scStepO.nd
    refine ⟨_, (dss_cons (ds_asg (de_partition (dv 0) de_str) (dg_tup3 (i := 1) (j := 2) (k := 3) rfl nd))
 (dss_cons (ds_set (i := 4) nd (de_if (dt_val (de_call (ok_numeral R.numeral.fn T) (hr.mono (by decide)) R.numeral.mg R.numeral.fn.kp R.numeral.bd (da_cons (dv 3) da_nil))) (de_callTy dc_intA T.int (da_cons (dv 3) da_nil)) (dv 3)))
 (dss_cons (ds_if (dt_not (dt_val (de_call (ok_isstep R T) (hr.mono (by decide)) R.isstep.mg R.isstep.fn.kp R.isstep.bd (da_cons (dv 1) (da_cons (dv 4) da_nil)))))
 (dss_one ds_never)
 dss_nil)
 (dss_one (ds_ret (de_make 0 S.mkC (ok_stepinit S R T) (hr.mono (by decide)) S.mgC S.init.bd (da_cons (dv 1) (da_cons (dv 4) da_nil)))))))), ?_⟩
    refine ⟨_, rfl, _, rfl, _, rfl, rfl, ht, ?_⟩
    refine ⟨_, _, _, rfl, ?_⟩
    unfold parseS at hp
    dsimp only at hp
    generalize (Txt.partition t " ").1 = k0 at hp ⊢
    generalize (Txt.partition t " ").2.2 = r at hp hr2 ⊢
    generalize (Txt.partition t " ").2.1 = u
    refine ⟨_, rfl, _, rfl, hr2, _, rfl, ?_⟩
    cases hn : isNum r with
    | true =>
      rw [hn, if_pos rfl] at hp
      refine iteT ?_
      cases hi : PySem.intText? r with
      | none => rw [hi] at hp; cases hp
      | some n =>
        rw [hi] at hp
        dsimp only at hp
        by_cases hc : (stepB k0 (.int n) && decide (r.length ≤ 640)) = true
        · rw [if_pos hc] at hp
          rw [Bool.and_eq_true, decide_eq_true_eq] at hc
          injection hp with hp
          injection hp with e1 e2
          subst e1; subst e2
          refine ⟨_, rfl, n, hi, hc.2, ?_⟩
          refine ⟨_, rfl, _, rfl, _, _, rfl, hc.1, _, rfl, iteF ?_⟩
          exact ⟨_, rfl, _, rfl, _, _, rfl, hc.1, q⟩
        · rw [if_neg hc] at hp; cases hp
    | false =>
      rw [hn, if_neg Bool.false_ne_true] at hp
      refine iteF ?_
      by_cases hc : stepB k0 (.str r) = true
      · rw [if_pos hc] at hp
        injection hp with hp
        injection hp with e1 e2
        subst e1; subst e2
        refine ⟨_, rfl, ?_⟩
        refine ⟨_, rfl, _, rfl, _, _, rfl, hc, _, rfl, iteF ?_⟩
        exact ⟨_, rfl, _, rfl, _, _, rfl, hc, q⟩
      · rw [if_neg hc] at hp; cases hp
end
end TC
namespace TC
open PySem PySem.Spec PyProof.Rows L2 RZ
variable [Cl]
abbrev sRow : Stmt := top 44
abbrev sLine : Stmt := top 43
abbrev sDone : Stmt := top 47
/-! ### steps -/
inductive Stp where
  | touch (t : Str) | forget (t : Str) | cap (n : Int)
def Stp.kind : Stp → Str
  | .touch _ => "touch" | .forget _ => "forget" | .cap _ => "cap"
def Stp.what : Stp → D
  | .touch t => .str t | .forget t => .str t | .cap n => .int n
/-- what a step makes of a row -/
def Stp.go : Stp → List Str → List Str
  | .touch t, l => t :: l.filter (fun x => !decide (x = t))
  | .forget t, l => l.filter (fun x => !decide (x = t))
  | .cap n, l => l.take n.toNat
def goes (L : List Stp) (l : List Str) : List Str := L.foldl (fun r s => s.go r) l
/-- the step as a pair -/
def Stp.pr (s : Stp) : D := .tup [.str s.kind, s.what]
/-- the step as an object -/
def Stp.ob (s : Stp) : D := .obj 0 [.str s.kind, s.what]
/-- a NAME; a number from 1 -/
def Stp.ok : Stp → Prop
  | .touch t => isNm (.str t) = true ∧ t.length ≤ sizeLine
  | .forget t => isNm (.str t) = true ∧ t.length ≤ sizeLine
  | .cap n => 1 ≤ n
/-- of these names, its number at most this -/
def Stp.of (ts : List Str) (h : Int) : Stp → Prop
  | .touch t => t ∈ ts
  | .forget t => t ∈ ts
  | .cap n => 1 ≤ n ∧ n ≤ h
theorem Stp.ok_b {s : Stp} (h : s.ok) : stepB s.kind s.what = true := by
  cases s with
  | touch t =>
    obtain ⟨h1, h2⟩ := h
    show ((decide (("touch" : Str) = "touch") || decide (("touch" : Str) = "forget")) && isNm (.str t) && decide (t.length ≤ sizeLine)) = true
    rw [h1, decide_eq_true h2]; decide +kernel
  | forget t =>
    obtain ⟨h1, h2⟩ := h
    show ((decide (("forget" : Str) = "touch") || decide (("forget" : Str) = "forget")) && isNm (.str t) && decide (t.length ≤ sizeLine)) = true
    rw [h1, decide_eq_true h2]; decide +kernel
  | cap n =>
    show (decide (("cap" : Str) = "cap") && decide (1 ≤ n)) = true
    rw [decide_eq_true (show 1 ≤ n from h)]; decide +kernel
theorem strs_flat (ts : List Str) : (ts.map D.str).all flatD = true := by
  rw [List.all_eq_true]; intro d hd; obtain ⟨b, _, rfl⟩ := List.mem_map.mp hd; rfl
theorem eqV_str (a b : Str) : eqV (.str a) (.str b) = decide (a = b) := by
  show (a == b) = _
  by_cases h : a = b
  · subst h; simp
  · rw [decide_eq_false h]; simp [h]
theorem dec_str (a b : Str) : decide (fv (.str a) = fv (.str b)) = decide (a = b) := by
  have : (fv (.str a) = fv (.str b)) ↔ a = b := ⟨fun h => by injection h, fun h => by rw [h]⟩
  exact decide_eq_decide.mpr this
theorem outD_str (l : List Str) (t : Str) : outD (l.map D.str) [.str t] = (l.filter (fun x => !decide (x = t))).map D.str := by
  unfold outD
  rw [List.filter_map]
  congr 1
  apply List.filter_congr
  intro x _
  show (!inV (.str x) [.str t]) = _
  simp only [inV, List.any_cons, List.any_nil, Bool.or_false]
  rw [eqV_str]
  by_cases h : x = t
  · subst h; rfl
  · rw [decide_eq_false h, decide_eq_false (fun z => h z.symm)]
theorem cutD_int (l : List D) (n : Int) (h : 0 ≤ n) : cutD l none (some n) = l.take n.toNat := by
  have e : n = ((n.toNat : Nat) : Int) := by omega
  rw [e, cutD_nat, Int.toNat_natCast]
theorem stepR_go {s : Stp} (h : s.ok) (l : List Str) : stepR s.kind s.what (l.map D.str) = (s.go l).map D.str := by
  cases s with
  | touch t =>
    show (if ("touch" : Str) = "touch" then D.str t :: outD (l.map D.str) [.str t] else outD (l.map D.str) [.str t]) = _
    rw [if_pos rfl, outD_str]; rfl
  | forget t =>
    show (if ("forget" : Str) = "touch" then D.str t :: outD (l.map D.str) [.str t] else outD (l.map D.str) [.str t]) = _
    rw [if_neg (by decide +kernel)]
    exact outD_str l t
  | cap n =>
    show cutD (l.map D.str) none (some n) = (l.take n.toNat).map D.str
    rw [cutD_int _ _ (by have : 1 ≤ n := h; omega), List.map_take]
theorem go_len (s : Stp) (l : List Str) : (s.go l).length ≤ l.length + 1 := by
  cases s with
  | touch t => exact Nat.succ_le_succ (List.length_filter_le _ _)
  | forget t => exact Nat.le_succ_of_le (List.length_filter_le _ _)
  | cap n => exact Nat.le_succ_of_le (by show (l.take _).length ≤ _; rw [List.length_take]; omega)
theorem goes_len : ∀ (L : List Stp) (l : List Str), (goes L l).length ≤ l.length + L.length
  | [], l => Nat.le_refl _
  | s :: L, l => by
    have h1 := goes_len L (s.go l)
    have h2 := go_len s l
    show (goes L (s.go l)).length ≤ _
    rw [List.length_cons]
    omega
theorem goes_app (L M : List Stp) (l : List Str) : goes (L ++ M) l = goes M (goes L l) := List.foldl_append ..
/-- a short tuple or list of short texts is alike to itself -/
theorem flat_depL : ∀ {l : List D}, l.all flatD = true → depL l = 0
  | [], _ => rfl
  | d :: l, h => by
    simp only [List.all_cons, Bool.and_eq_true] at h
    rw [depL, flat_depL h.2]
    cases d <;> first | rfl | simp [flatD] at h
theorem flat_cleanL : ∀ {l : List D}, l.all flatD = true → l.length ≤ sizeLine → cleanL l = true
  | [], _, _ => rfl
  | d :: l, h, hl => by
    simp only [List.all_cons, Bool.and_eq_true] at h
    rw [cleanL, flat_cleanL h.2 (by simp at hl; omega)]
    have hd : clean d = true := by cases d <;> first | rfl | simp [flatD] at h
    rw [hd]
    simp at hl ⊢
    omega
theorem same_intro {n : Nat} {a b : D} {m : Nat} {Q : D → Nat → Prop} (h : beqD a b = true) (h1 : dep a ≤ n) (h2 : clean a = true) (q : Q (.bl true) m) : spSame n [a, b] m Q := by
  obtain rfl := beqD_eq h
  exact ⟨a, rfl, h1, h2, q⟩
section
variable {P : Program} {w : World} {K : PySem.W.Frag} {mg : Str → Option Value} {base : Heap}
/-! ### rows by draws -/
def spRow : DSp := fun ds m Q => ∃ (ts : List Str) (most : Int) (m' : Nat), ds = [.urn, .lst (ts.map D.str), .int most] ∧ ts.length ≤ 1000 ∧ 0 ≤ most ∧ most < 1000 ∧ m = m' + 1 + ts.length ∧
  ∀ r : List Str, (∀ x ∈ r, x ∈ ts) → (ts.Nodup → r.Nodup) → r.length ≤ ts.length → (r.length : Int) ≤ most → Q (.tup (r.map D.str)) m'
theorem scRow : FnScope ["_law_urn", "_law_pool", "_law_most"] ["_law_urn", "_law_pool", "_law_most"] (defScope sRow) := ⟨rfl, rfl, rfl, by decide +kernel, rfl, by decide +kernel, by decide +kernel⟩
theorem ok_row {f fT fM : Addr} {fd fdT fdM : FuncData} (F : Fun K "_law_row" "_law_row" sRow f fd) (T : Blt mg) (A1 : At K mg "_law_take" sTake ["_law_urn", "_law_low_so"] fT fdT) (A3 : At K mg "_law_mixed" sMixed ["_law_urn", "_law_pool"] fM fdM) : FnOk P w K mg base CX0 3 f fd ["_law_urn", "_law_pool", "_law_most"] (spD spRow) := by
  refine fnD F scRow ?_ fun cdv A outer s H E ds m Q' hr h => ?_
  · rintro ds m Q ⟨ts, most, m', rfl, _⟩
    rfl
  · obtain ⟨ts, most, m', rfl, hl, h0, h1, rfl, q⟩ := h
    have nd := scRow.nd
    refine ⟨_, (dss_one (ds_ret (de_callTy dc_tupleA T.tuple (da_cons (de_slice (de_call (ok_mixed A3.fn T A1) (hr.mono (by decide)) A3.mg A3.fn.kp A3.bd (da_cons (dv 0) (da_cons (dv 1) da_nil))) dp_none (dp_some (de_call (ok_take A1.fn T) (hr.mono (by decide)) A1.mg A1.fn.kp A1.bd (da_cons (dv 0) (da_cons (de_op do_add (dv 2) de_int) da_nil))))) da_nil)))), ?_⟩
    dsimp only [dRet, dSet, dSeq, dCall, dCons, dNil, dTup, dLst, dIfS, dPar, dNext, dStar]
    refine ⟨_, rfl, _, rfl, _, ts.map D.str, m' + 1, rfl, .inr rfl, by simpa using hl, by simp, fun l' hp => ?_⟩
    refine ⟨_, rfl, _, rfl, _, m', rfl, by omega, by omega, rfl, fun v v0 v1 => ⟨v, rfl, ?_⟩⟩
    obtain ⟨us, hu, rfl⟩ := perm_str hp
    have e : v = ((v.toNat : Nat) : Int) := by omega
    show Q' (.tup (cutD (us.map D.str) none (some v))) m'
    rw [e, cutD_nat, ← List.map_take]
    refine q _ (fun x hx => hu.mem_iff.mp (List.mem_of_mem_take hx)) (fun n => (hu.nodup_iff.mpr n).sublist (List.take_sublist _ _)) ?_ ?_
    · rw [List.length_take, hu.length_eq]; omega
    · rw [List.length_take]; omega
/-! ### lines by draws -/
def spLine : DSp := fun ds m Q => ∃ (ts : List Str) (most : Nat) (high : Int) (m' : Nat), ds = [.urn, .lst (ts.map D.str), .int (most : Int), .int high] ∧ 0 < ts.length ∧ ts.length ≤ 1000 ∧ most ≤ 100 ∧ 0 < high ∧ high < 100000000000000000000000000000000000000000 ∧ m = m' + 1 + 2 * most ∧
  ∀ (L : List Stp) (mm : Nat), L.length ≤ most → (∀ s ∈ L, s.of ts high) → m' ≤ mm → Q (.tup (L.map Stp.pr)) mm
theorem scLine : FnScope ["_law_urn", "_law_tags_here", "_law_most", "_law_high", "_law_found", "_law_turn", "_law_kind_so"] ["_law_urn", "_law_tags_here", "_law_most", "_law_high"] (defScope sLine) := ⟨rfl, rfl, rfl, by decide +kernel, rfl, by decide +kernel, by decide +kernel⟩
theorem ok_line {f fT fO : Addr} {fd fdT fdO : FuncData} (F : Fun K "_law_line" "_law_line" sLine f fd) (T : Blt mg) (A1 : At K mg "_law_take" sTake ["_law_urn", "_law_low_so"] fT fdT) (A2 : At K mg "_law_of" sOf ["_law_urn", "_law_some_so"] fO fdO) : FnOk P w K mg base CX0 3 f fd ["_law_urn", "_law_tags_here", "_law_most", "_law_high"] (spD spLine) := by
  refine fnM F scLine ?_ fun cdv A outer s H E ds m Q' hr h => ?_
  · rintro ds m Q ⟨ts, most, high, m', rfl, _⟩
    rfl
  · obtain ⟨ts, most, high, m', rfl, t0, t1, hm, h0, h1, rfl, q⟩ := h
    have nd := scLine.nd
    refine ⟨_, (dmT_new (i := 4) nd da_nil
 (dmT_cons (dm_for PassesOwn.never rfl (di_range T.range (de_call (ok_take A1.fn T) (hr.mono (by decide)) A1.mg A1.fn.kp A1.bd (da_cons (dv 0) (da_cons (de_op do_add (dv 2) de_int) da_nil)))) (dg_name (i := 5) nd)
 (dm_cons (dm_lift (ds_set (i := 6) nd (de_call (ok_of A2.fn T A1) (hr.mono (by decide)) A2.mg A2.fn.kp A2.bd (da_cons (dv 0) (da_cons (de_lst (da_cons de_str (da_cons de_str (da_cons de_str (da_cons de_str (da_cons de_str (da_cons de_str da_nil))))))) da_nil)))))
 (dm_one (dm_app (i := 4) (dv 4) (de_tup (da_cons (dv 6) (da_cons (de_if (dt_cmp do_eq (dv 6) de_str) (de_op do_add de_int (de_call (ok_take A1.fn T) (hr.mono (by decide)) A1.mg A1.fn.kp A1.bd (da_cons (dv 0) (da_cons (dv 3) da_nil)))) (de_call (ok_of A2.fn T A1) (hr.mono (by decide)) A2.mg A2.fn.kp A2.bd (da_cons (dv 0) (da_cons (dv 1) da_nil)))) da_nil)))))))
 (dmT_rel (dmT_one (dm_lift (ds_ret (de_callTy dc_tupleA T.tuple (da_cons (dv 4) da_nil)))))))), fun nw => ?_⟩
    refine ⟨rfl, Nat.zero_le _, fun p np hc => ?_⟩
    refine ⟨_, rfl, _, rfl, _, m' + 2 * most, rfl, by omega, by omega, by omega, fun n n0 n1 => ?_⟩
    obtain ⟨n, rfl⟩ : ∃ k : Nat, n = (k : Int) := ⟨n.toNat, by omega⟩
    refine ⟨n, rfl, by omega, ?_⟩
    have hln : (nats n).length = n := by simp [nats]
    refine ⟨nocL_mem fun d hd => by obtain ⟨i, _, rfl⟩ := List.mem_map.mp hd; rfl, fun i env mm => ∃ (L : List Stp) (o1 o2 : Option D), env = [some .urn, some (.lst (ts.map D.str)), some (.int (most : Int)), some (.int high), some (.cell p (L.map Stp.pr)), o1, o2] ∧ (∀ d, o1 = some d → flatD d = true) ∧ (∀ d, o2 = some d → flatD d = true) ∧ L.length = i ∧ (∀ s ∈ L, s.of ts high) ∧ m' + 2 * most ≤ mm + 2 * i, ⟨[], none, none, rfl, nofun, nofun, rfl, nofun, by omega⟩, ?_, ?_⟩
    · rintro i d env mm hd ⟨L, o1, o2, rfl, f1, f2, hl, hL, hmm⟩
      have hi : i < n := by
        obtain ⟨h1, _⟩ := List.getElem?_eq_some_iff.mp hd
        rw [hln] at h1; exact h1
      rw [nats_get hi] at hd
      cases hd
      have nL : nocL (L.map Stp.pr) = true := nocL_mem fun d hd => by
        obtain ⟨s, _, rfl⟩ := List.mem_map.mp hd
        cases s <;> rfl
      have hz : (L.map Stp.pr).length < sizeLine := by rw [List.length_map]; exact small1000 (by omega)
      have sep : SepL p ((((([some D.urn, some (.lst (ts.map D.str)), some (.int (most : Int)), some (.int high), none, some (.int (i : Int)), none] : Env))))) := ⟨.inl rfl, .inl (flat_nocL (strs_flat ts)), .inl rfl, .inl rfl, .inl rfl, trivial⟩
      have sepK : ∀ k : Str, SepL p ([some D.urn, some (.lst (ts.map D.str)), some (.int (most : Int)), some (.int high), none, some (.int (i : Int)), some (.str k)] : Env) := fun k => ⟨.inl rfl, .inl (flat_nocL (strs_flat ts)), .inl rfl, .inl rfl, .inl rfl, .inl rfl, trivial⟩
      have next : ∀ (s : Stp) (k : Str) (mm' : Nat), s.of ts high → mm ≤ mm' + 2 → ∃ (L' : List Stp) (o1 o2 : Option D), ([some .urn, some (.lst (ts.map D.str)), some (.int (most : Int)), some (.int high), some (.cell p (L.map Stp.pr ++ [s.pr])), some (.int (i : Int)), some (.str k)] : Env) = [some .urn, some (.lst (ts.map D.str)), some (.int (most : Int)), some (.int high), some (.cell p (L'.map Stp.pr)), o1, o2] ∧ (∀ d, o1 = some d → flatD d = true) ∧ (∀ d, o2 = some d → flatD d = true) ∧ L'.length = i + 1 ∧ (∀ s ∈ L', s.of ts high) ∧ m' + 2 * most ≤ mm' + 2 * (i + 1) := fun s k mm' hs hm' => by
        refine ⟨L ++ [s], _, _, by rw [List.map_append]; rfl, fun d e => by cases e; rfl, fun d e => by cases e; rfl, by rw [List.length_append, hl]; rfl, fun x hx => ?_, by omega⟩
        rcases List.mem_append.mp hx with h | h
        · exact hL x h
        · rw [List.mem_singleton.mp h]; exact hs
      refine ⟨_, rfl, (by show 6 ≤ sizeLine; decide), _, _, mm - 1, rfl, .inr rfl, by decide, by decide, by omega, fun kd hkd => ?_⟩
      have hk : kd = .str "touch" ∨ kd = .str "forget" ∨ kd = .str "cap" := by
        simp only [List.mem_cons, List.not_mem_nil, or_false] at hkd
        rcases hkd with rfl | rfl | rfl | rfl | rfl | rfl <;> simp
      rcases hk with rfl | rfl | rfl
      · refine ⟨p, _, rfl, np, _, rfl, _, rfl, rfl, rfl, rfl, _, rfl, iteF ?_⟩
        refine ⟨_, rfl, _, rfl, _, _, mm - 2, rfl, .inr rfl, by rw [List.length_map]; exact t0, by rw [List.length_map]; omega, by omega, fun d hd => ?_⟩
        obtain ⟨t, ht, rfl⟩ := List.mem_map.mp hd
        exact ⟨(by show 2 ≤ sizeLine; decide), rfl, nL, hz, sepK _, next (.touch t) _ _ ht (by omega)⟩
      · refine ⟨p, _, rfl, np, _, rfl, _, rfl, rfl, rfl, rfl, _, rfl, iteF ?_⟩
        refine ⟨_, rfl, _, rfl, _, _, mm - 2, rfl, .inr rfl, by rw [List.length_map]; exact t0, by rw [List.length_map]; omega, by omega, fun d hd => ?_⟩
        obtain ⟨t, ht, rfl⟩ := List.mem_map.mp hd
        exact ⟨(by show 2 ≤ sizeLine; decide), rfl, nL, hz, sepK _, next (.forget t) _ _ ht (by omega)⟩
      · refine ⟨p, _, rfl, np, _, rfl, _, rfl, rfl, rfl, rfl, _, rfl, iteT ?_⟩
        refine ⟨_, rfl, _, rfl, _, mm - 2, rfl, h0, h1, by omega, fun v v0 v1 => ?_⟩
        exact ⟨(by show 2 ≤ sizeLine; decide), rfl, nL, hz, sepK _, next (.cap (1 + v)) _ _ ⟨by omega, by omega⟩ (by omega)⟩
    · rintro env mm ⟨L, o1, o2, rfl, f1, f2, hl, hL, hmm⟩
      rw [hln] at hl hmm
      have nL : nocL (L.map Stp.pr) = true := nocL_mem fun d hd => by
        obtain ⟨s, _, rfl⟩ := List.mem_map.mp hd
        cases s <;> rfl
      have e : ∀ o : Option D, (∀ d, o = some d → flatD d = true) → o.map rel = o := fun o h => by
        cases o with
        | none => rfl
        | some d => exact congrArg some (rel_noc (flat_noc (h d rfl)))
      have rl : RelE nw [some .urn, some (.lst (ts.map D.str)), some (.int (most : Int)), some (.int high), some (.cell p (L.map Stp.pr)), o1, o2] := by
        refine ⟨.inl rfl, .inl (flat_nocL (strs_flat ts)), .inl rfl, .inl rfl, .inr ⟨p, _, rfl, np, nL⟩, ?_⟩
        cases o1 with
        | none => cases o2 with
          | none => trivial
          | some d => exact ⟨.inl (flat_noc (f2 d rfl)), trivial⟩
        | some d1 => cases o2 with
          | none => exact ⟨.inl (flat_noc (f1 d1 rfl)), trivial⟩
          | some d => exact ⟨.inl (flat_noc (f1 d1 rfl)), .inl (flat_noc (f2 d rfl)), trivial⟩
      refine ⟨rl, ?_⟩
      refine ⟨_, rfl, nL, ?_⟩
      exact q L mm (by omega) hL (by omega)
/-! ### a line done -/
def spDone : DSp := fun ds m Q => ∃ (a b : D) (l : List Str) (L : List Stp), ds = [a, b] ∧ Sq a (l.map D.str) ∧ Sq b (L.map Stp.pr) ∧ l.length + L.length ≤ 1000 ∧ (∀ n, Stp.cap n ∈ L → 0 ≤ n) ∧ Q (.tup ((goes L l).map D.str)) m
theorem scDone : FnScope ["_law_row_so", "_law_line_so", "_law_here", "_law_kind_so", "_law_what_so", "_law_own"] ["_law_row_so", "_law_line_so"] (defScope sDone) := ⟨rfl, rfl, rfl, by decide +kernel, rfl, by decide +kernel, by decide +kernel⟩
theorem ok_done {f : Addr} {fd : FuncData} (F : Fun K "_law_done" "_law_done" sDone f fd) (T : Blt mg) : FnOk P w K mg base CX0 1 f fd ["_law_row_so", "_law_line_so"] (spD spDone) := by
  refine fnD F scDone ?_ fun cdv A outer s H E ds m Q' hr h => ?_
  · rintro ds m Q ⟨a, b, l, L, rfl, _⟩
    rfl
  · obtain ⟨a, b, l, L, rfl, ha, hb, hl, hc, q⟩ := h
    have nd := scDone.nd
    refine ⟨_, (dss_cons (ds_set (i := 2) nd (de_callTy dc_listA T.list (da_cons (dv 0) da_nil)))
 (dss_cons (ds_for PassesOwn.never rfl (di_var 1 (dv 1)) (dg_tup2 (i := 3) (j := 4) rfl nd)
 (dss_one (ds_if (dt_cmp do_eq (dv 3) de_str)
 (dss_one (ds_set (i := 2) nd (de_slice (dv 2) dp_none (dp_some (dv 4)))))
 (dss_cons (ds_setLc (i := 2) (own := [("_law_own", 5)]) rfl nd (di_var 2 (dv 2)) (blkOk_by (N := ["_law_row_so", "_law_line_so", "_law_here", "_law_kind_so", "_law_what_so", "_law_own"]) (sc := defScope sDone) (by decide +kernel)) (fun _ _ _ _ _ => dg_name (i := 5) nd) (fun _ _ _ _ _ => dts_one (dt_cmp do_ne (dv 5) (dv 4))) (fun _ _ _ _ _ => (dv 5)))
 (dss_one (ds_set (i := 2) nd (de_op do_add (de_op do_mulA (de_lst (da_cons (dv 4) da_nil)) (de_callTy dc_intA T.int (da_cons (de_cmp do_eq (dv 3) de_str) da_nil))) (dv 2))))))))
 (dss_one (ds_ret (de_callTy dc_tupleA T.tuple (da_cons (dv 2) da_nil)))))), ?_⟩
    have small : ∀ n : Nat, n ≤ 1001 → n ≤ sizeLine := fun n h => Nat.le_trans h (by decide)
    have first : ∀ R : D → Nat → Prop, R (.lst (l.map D.str)) m → (dCall (fun ds m Q => seqD ds fun l => Q (.lst l) m) (dCons (dVar 0) dNil)) [some a, some b, none, none, none, none] m R := fun R hR => by
      rcases ha with rfl | rfl <;> exact ⟨_, rfl, hR⟩
    dsimp only [dSeq, dSet]
    refine first _ ?_
    refine ⟨b, rfl, ?_⟩
    have hb2 : ∀ R : List D → Prop, R (L.map Stp.pr) → walkD K b R := fun R hR => by rcases hb with rfl | rfl <;> exact hR
    refine hb2 _ ?_
    refine ⟨fun i env mm => ∃ (cur : List D) (o3 o4 o5 : Option D), env = [some a, some b, some (.lst cur), o3, o4, o5] ∧ cur = (goes (L.take i) l).map D.str ∧ mm = m, ⟨_, _, _, _, rfl, rfl, rfl⟩, ?_, ?_⟩
    · rintro i d env mm hd ⟨cur, o3, o4, o5, rfl, rfl, rfl⟩
      obtain ⟨hi, hs⟩ : ∃ h : i < L.length, d = L[i].pr := by
        rw [List.getElem?_map] at hd
        cases e : L[i]? with
        | none => rw [e] at hd; cases hd
        | some s =>
          rw [e] at hd
          obtain ⟨h, e2⟩ := List.getElem?_eq_some_iff.mp e
          exact ⟨h, by rw [e2]; exact (Option.some.inj hd).symm⟩
      have hgo : goes (L.take (i + 1)) l = L[i].go (goes (L.take i) l) := by
        rw [← List.take_append_getElem hi, goes_app]; rfl
      have hmem : L[i] ∈ L := List.getElem_mem hi
      have hcl : (goes (L.take i) l).length ≤ 1000 := by
        have := goes_len (L.take i) l
        rw [List.length_take] at this
        omega
      generalize hcur : goes (L.take i) l = cur at hcl hgo ⊢
      generalize hsi : L[i] = s at hs hmem hgo ⊢
      subst hs
      have hfl : ∀ t : Str, (cur.filter (fun x => !decide (x = t))).length ≤ 1000 := fun t => Nat.le_trans (List.length_filter_le _ _) hcl
      have lc : ∀ (t : Str) (e3 : Option D) (R : D → Nat → Prop), R (.lst ((cur.filter (fun x => !decide (x = t))).map D.str)) mm →
          (dLc (fun env m Q => ∃ d, env[2]? = some (some d) ∧ walkD K d fun l => Q l m) (dgName 5) (dB (dBin (deq true) (dVar 5) (dVar 4))) (dVar 5) [5]) [some a, some b, some (.lst (cur.map D.str)), e3, some (.str t), o5] mm R := fun t e3 R hR => by
        refine dLc_pure (cur.map D.str) (fun d => !decide (fv d = fv (.str t))) (fun d => d) (fun R hR => ⟨_, rfl, hR⟩) (small _ (by rw [List.length_map]; omega)) (fun d hd mm R hR => ?_) (fun d hd _ mm R hR => ⟨_, rfl, hR⟩) ?_
        · obtain ⟨x, _, rfl⟩ := List.mem_map.mp hd
          exact ⟨_, rfl, _, rfl, rfl, rfl, rfl, _, rfl, hR⟩
        · rw [List.filter_map, List.map_map]
          have e : (cur.filter ((fun d => !decide (fv d = fv (.str t))) ∘ D.str)) = cur.filter (fun x => !decide (x = t)) := List.filter_congr fun x _ => by
            show (!decide (fv (.str x) = fv (.str t))) = _
            rw [dec_str]
          rw [e]
          exact hR
      cases s with
      | touch t =>
        refine ⟨_, _, rfl, _, rfl, rfl, rfl, rfl, _, rfl, iteF ?_⟩
        dsimp only [dSeq, dSet]
        refine lc t _ _ ?_
        refine ⟨_, rfl, (by show 1 ≤ sizeLine; decide), _, rfl, rfl, rfl, rfl, (by show (0 : Int) ≤ 1; decide), (by show (1 : Int) < 2 ^ 63; decide), (by show 1 * 1 ≤ sizeLine; decide), _, rfl, ?_, ?_⟩
        · have := hfl t
          exact small _ (by show 1 + ((cur.filter (fun x => !decide (x = t))).map D.str).length ≤ 1001; rw [List.length_map]; omega)
        · exact ⟨_, _, _, _, rfl, by rw [hgo]; rfl, rfl⟩
      | forget t =>
        refine ⟨_, _, rfl, _, rfl, rfl, rfl, rfl, _, rfl, iteF ?_⟩
        dsimp only [dSeq, dSet]
        refine lc t _ _ ?_
        refine ⟨_, rfl, (by show 1 ≤ sizeLine; decide), _, rfl, rfl, rfl, rfl, (by show (0 : Int) ≤ 0; decide), (by show (0 : Int) < 2 ^ 63; decide), (by show 1 * 0 ≤ sizeLine; decide), _, rfl, ?_, ?_⟩
        · have := hfl t
          exact small _ (by show 0 + ((cur.filter (fun x => !decide (x = t))).map D.str).length ≤ 1001; rw [List.length_map]; omega)
        · exact ⟨_, _, _, _, rfl, by rw [hgo]; rfl, rfl⟩
      | cap n =>
        refine ⟨_, _, rfl, _, rfl, rfl, rfl, rfl, _, rfl, iteT ?_⟩
        refine ⟨_, rfl, _, rfl, n, rfl, ?_⟩
        refine ⟨_, _, _, _, rfl, ?_, rfl⟩
        rw [hgo]
        show cutD (cur.map D.str) none (some n) = (cur.take n.toNat).map D.str
        rw [cutD_int _ _ (hc n hmem), List.map_take]
    · rintro env mm ⟨cur, o3, o4, o5, rfl, rfl, rfl⟩
      rw [List.length_map, List.take_length]
      exact ⟨_, rfl, q⟩
end
end TC
namespace TC
open PySem PySem.Spec PyProof.Rows L2
variable [Cl]
/-! ### isinstance(o, C), o an object of an own class -/
structure IsF (K : PySem.W.Frag) (n j : Nat) (b : Bool) : Prop where
  cl : Cls K (Cl.c n).1
  ha : PySem.W.findIn K (.ref (Cl.c n).1) "__class__" = some (some (.builtin "object.__class__"))
  hn : PySem.W.specialIn K (.builtin "object.__class__") "__get__" = some (some (.builtin "getset_descriptor.__get__"))
  htk : PySem.W.takesIn K (.builtin "object.__class__") = some true
  hm : PySem.W.mroIn K (Cl.c n).1 (.type "object") = some true
  ki : PySem.W.kitOne K (.ref (Cl.c n).1) (.ref (Cl.c j).1) = some b
theorem kit_self {K : PySem.W.Frag} {C : Addr} : PySem.W.kitOne K (.ref C) (.ref C) = some true := by
  unfold PySem.W.kitOne
  rw [if_pos (beq_self_eq_true _)]
theorem kit_own {K : PySem.W.Frag} {C E : Addr} {b : Bool} (ne : (Value.ref C == Value.ref E) = false) (hd : PySem.W.hasDictIn K E = true) (h2 : PySem.W.typeIn K (.ref E) = some (.type "type")) (h3 : PySem.W.mroIn K C (.ref E) = some b) : PySem.W.kitOne K (.ref C) (.ref E) = some b := by
  obtain ⟨cd, hc, _⟩ := PySem.W.any_some hd
  unfold PySem.W.kitOne
  rw [if_neg (by rw [ne]; exact Bool.false_ne_true)]
  unfold PySem.W.kitCls
  simp only [hc, h2, Option.isSome_some, beq_self_eq_true, Bool.and_self, if_true]
  exact h3
section
variable {X : Cx} {e : Expr} {te : DE} {A : Str} {p p1 pos : Pos}
def dIsO (K : PySem.W.Frag) (j : Nat) (te : DE) : DE := fun env m Q => te env m fun d m1 => ∃ n l b, d = .obj n l ∧ IsF K n j b ∧ Q (.bl b) m1
theorem de_isiO (j : Nat) (hm : X.mg "isinstance" = none) (ha : De X e te) (hA : X.mg A = some (.ref (Cl.c j).1))
    (hgA : Gl X A := by rfl) (hg : Gl X "isinstance" := by rfl) (hdA : (A == ("__debug__" : Str)) = false := by decide)
    (hs1 : starEach [e, .Name A p1] X.env = (false, eval e X.env) :: starEach [.Name A p1] X.env := by rfl) (hs2 : starEach [.Name A p1] X.env = (false, eval (.Name A p1) X.env) :: starEach [] X.env := by rfl)
    (hpl : (backTo pos (starEach [.Name A p1] X.env)).any (·.1) = false := by rfl) :
    De X (.Call (.Name "isinstance" p) [e, .Name A p1] [] pos) (dIsO X.K j te) := by
  have pA : PE X (.Name A p1) (fun σ H Q => Q (.ref (Cl.c j).1) H) := ⟨fun pins s σ H Q I h => ld_glob I hgA hA ⟨.ref _, H, I, rfl, h⟩ hdA⟩
  refine ⟨fun w σ H env m Q' Q sl hu h c => wp_of (pe_callB call_isi hg hm (by decide +kernel) (pa_cons pe_self (pa_cons pA pa_nil hs2) hs1) (by decide) (by decide) hs1 hpl) ?_⟩
  refine ha.run w σ H env m _ _ sl hu h fun v d m1 H1 f1 u1 h1 q1 => ?_
  obtain ⟨n, l, b, rfl, F, q⟩ := q1
  unfold Hd at h1
  obtain ⟨a, dx, vs, rfl, na, nd, hd, hp, hds⟩ := h1
  exact ⟨.ref a, .ref (Cl.c j).1, .ref (Cl.c n).1, .ref (Cl.c j).1, b, rfl, .own _, .base (.ins hp F.cl F.ha F.hn F.htk F.hm), F.ki, c _ _ _ _ f1 u1 (Hd.bl.mpr rfl) q⟩
end
/-! ### an operator of an own class, both of the same class -/
structure OpO (K : PySem.W.Frag) (C : Addr) (m : Str) (g : Addr) : Prop where
  at_ : PySem.W.findIn K (.ref C) m = some (some (.ref g))
  fn : PySem.W.isFn K (.ref g) = true
  sf : PySem.W.selfFirst K C = true
def dOwn (n : Nat) (sp : DSp) : D2 := fun x y m Q => ∃ l r, x = .obj n l ∧ y = .obj n r ∧ sp [x, y] m fun d m' => (∃ k t, d = .obj k t) ∧ Q d m'
theorem do_own {X : Cx} {op : Operator} {k : Nat} {g : Addr} {fd : FuncData} {ps : List Str} {sp : DSp} (n : Nat) (c : OpO X.K (Cl.c n).1 (PySem.dunder op.info.2) g) (F : FnOk X.prog X.w X.K X.mg X.base CX0 k g fd ps (spD sp)) (hr : Room k X.A) (hb : Binds X.K fd ps []) :
    DOp X (binaryOp op) (dOwn n sp) := by
  refine ⟨fun w H m x y dx dy Q' Q hu hx hy h cc => ?_⟩
  obtain ⟨l, r, rfl, rfl, q⟩ := h
  have hx0 := hx
  have hy0 := hy
  unfold Hd at hx hy
  obtain ⟨a, da, va, rfl, na, nda, hda, hpa, hsa⟩ := hx
  obtain ⟨b, db, vb, rfl, nb, ndb, hdb, hpb, hsb⟩ := hy
  intro pins s σ v u I rv ru
  obtain rfl : v = Value.ref a := rv
  obtain rfl : u = Value.ref b := ru
  obtain ⟨ox, od, J, _⟩ := StX.insC_at (C := (Cl.c n).1) I (.inr ⟨_, _, hpa⟩)
  obtain ⟨oy, oe, J2, _⟩ := StX.insC_at (C := (Cl.c n).1) I (.inr ⟨_, _, hpb⟩)
  obtain ⟨mm, Fq⟩ := I.fr
  have got := run_fn (us := [.ref a, .ref b]) (vs := [V.ref a, V.ref b]) F hr hb .nil pass0 I (.cons rfl (.cons rfl .nil)) (Q := fun z H' => (∃ p, z = V.ref p) ∧ Q z H')
    ⟨w, [.obj n l, .obj n r], m, _, .cons hx0 (.cons hy0 .nil), hu, q, fun z d m' H' f' u' h' ⟨⟨k, t, e⟩, q'⟩ => ⟨by subst e; unfold Hd at h'; obtain ⟨p, _, _, rfl, _⟩ := h'; exact ⟨p, rfl⟩, cc _ _ _ _ f' u' h' q'⟩⟩
  refine PySem.W.binop_K Fq I.ok.mod.kin J J2.type c.sf c.at_ c.fn (wpAny_mono got (fun z s' hz => ?_) fun _ _ e => e)
  obtain ⟨z', H', I', rz, ⟨p, rfl⟩, q'⟩ := hz
  obtain rfl : z = Value.ref p := rz
  exact ⟨.ref p, H', I', rfl, q'⟩
/-! ### x or y, texts and lists -/
section
variable {X : Cx} {a b e : Expr} {rest es : List Expr} {ta tb te : DE} {pos p : Pos}
def truD (d : D) (Q : Bool → Prop) : Prop := match d with
  | .str z => z.length ≤ sizeLine ∧ Q (decide (0 < z.length))
  | .lst l => Q (!l.isEmpty)
  | .tup l => Q (!l.isEmpty)
  | .int i => Q (i != 0)
  | .bl b => Q b
  | .non => Q false
  | _ => False
def dOrT (ta tb : DE) : DE := fun env m Q => ta env m fun x m1 => truD x fun k => if k = true then Q x m1 else tb env m1 Q
theorem empty_len {w : W} {H : Hp} {vs : List V} {ds : List D} (h : Hds w H vs ds) : (!vs.isEmpty) = (!ds.isEmpty) := by
  cases ds with
  | nil => rw [h.unnil]; rfl
  | cons d ds => obtain ⟨x, xs, rfl, _⟩ := h.uncons; rfl
theorem tru_of {w : W} {H : Hp} {v : V} {d : D} {K : PySem.W.Frag} {Q : Bool → Prop} (h : Hd w H v d) (t : truD d Q) : ∃ k, TruV K v H k ∧ Q k := by
  unfold truD at t
  split at t
  · rw [Hd.str] at h
    subst h
    rename_i z
    refine ⟨decide (0 < z.length), ⟨t.1, ?_⟩, t.2⟩
    cases hz : z.length with
    | zero => rfl
    | succ n => rw [decide_eq_true (Nat.succ_pos n)]; symm; rw [bne_iff_ne]; omega
  · rw [Hd.lst] at h
    obtain ⟨p, vs, rfl, _, hp, hds⟩ := h
    exact ⟨_, .inl ⟨vs, SqL.of hp, (empty_len hds).symm⟩, t⟩
  · rw [Hd.tup] at h
    obtain ⟨p, vs, rfl, _, hp, hds⟩ := h
    exact ⟨_, .inr (.inl ⟨vs, SqT.of hp, (empty_len hds).symm⟩), t⟩
  · rw [Hd.int] at h; subst h; exact ⟨_, rfl, t⟩
  · rw [Hd.bl] at h; subst h; exact ⟨_, rfl, t⟩
  · rw [Hd.non] at h; subst h; exact ⟨_, rfl, t⟩
  · exact t.elim
theorem de_orT (ha : De X a ta) (hb : De X (.BoolOp .Or (b :: rest) pos) tb) : De X (.BoolOp .Or (a :: b :: rest) pos) (dOrT ta tb) := by
  refine ⟨fun w σ H env m Q' Q sl hu h c => wp_of (pe_orT pe_self pe_self) ?_⟩
  refine ha.run w σ H env m _ _ sl hu h fun v d m1 H1 f1 u1 h1 q1 => ?_
  obtain ⟨k, hk, q⟩ := tru_of h1 q1
  refine ⟨k, hk, ?_⟩
  cases k with
  | true => exact iteT (c _ _ _ _ f1 u1 h1 (by simpa using q))
  | false => exact iteF (hb.run w σ H1 env m1 _ _ (sl.fr f1) u1 (by simpa using q) (c.from f1))
/-! ### str(x), x[::-1], C() -/
def strD (ds : List D) (m : Nat) (Q : D → Nat → Prop) : Prop := match ds with
  | [.int i] => i.natAbs.log2 < 1920 ∧ Q (.str (Str.ofString (toString i))) m
  | [.str z] => Q (.str z) m
  | _ => False
theorem dc_strA : DCall X (.type "str") strD := by
  refine ⟨fun w H m vs ds Q' Q hu hs h c => ?_⟩
  unfold strD at h
  split at h
  · obtain ⟨v, xs, rfl, h1, h2⟩ := hs.uncons
    cases h2.unnil
    rw [Hd.int] at h1; subst h1
    exact wpC_of call_str_int ⟨_, rfl, h.1, c _ _ _ _ (Fr.refl _ _) hu (Hd.str.mpr rfl) h.2⟩
  · obtain ⟨v, xs, rfl, h1, h2⟩ := hs.uncons
    cases h2.unnil
    rw [Hd.str] at h1; subst h1
    exact wpC_of SkE.call_str_str ⟨_, rfl, c _ _ _ _ (Fr.refl _ _) hu (Hd.str.mpr rfl) h⟩
  · exact h.elim
theorem Hds.rev {w : W} {H : Hp} : ∀ {ds : List D} {vs : List V}, Hds w H vs ds → Hds w H vs.reverse ds.reverse
  | [], vs, h => by rw [h.unnil]; exact .nil
  | d :: ds, vs, h => by
    obtain ⟨x, xs, rfl, h1, h2⟩ := h.uncons
    rw [List.reverse_cons, List.reverse_cons]
    exact h2.rev.app (.cons h1 .nil)
def dRev (te : DE) : DE := fun env m Q => te env m fun d m1 => ∃ l, d = .lst l ∧ Q (.lst l.reverse) m1
theorem de_rev {k : Nat} {p1 p2 p3 : Pos} (he : De X e te) : De X (.Subscript e (.Slice none none (some (.UnaryOp .USub (.Constant (.int 1) k p1) p2)) p3) pos) (dRev te) := by
  refine ⟨fun w σ H env m Q' Q sl hu h c => wp_of (pe_revL pe_self) ?_⟩
  refine he.run w σ H env m _ _ sl hu h fun v d m1 H1 f1 u1 h1 q1 => ?_
  obtain ⟨l, rfl, q⟩ := q1
  rw [Hd.lst] at h1
  obtain ⟨a, vs, rfl, na, hp, hds⟩ := h1
  exact ⟨a, vs, rfl, SqL.of hp, fun q' hq => c _ _ _ _ (f1.trans (Fr.upd hq)) (u1.upd hq) (new_lst u1 hds.rev hq) q⟩
end
section
variable {X : Cx} {tg e : Expr} {te : DE}
/-- a text is walked -/
theorem di_strE (he : De X e te) : Di X tg e (fun env m Q => te env m fun d m1 => ∃ z, d = .str z ∧ Q (signsD z) m1) := by
  refine ⟨fun w σ H env m Q' R sl hu hh c => wpI_of (pi_str pe_self) ?_⟩
  refine he.run w σ H env m _ _ sl hu hh fun v d m1 H1 f1 u1 h1 q1 => ?_
  obtain ⟨z, rfl, q⟩ := q1
  rw [Hd.str] at h1
  exact ⟨z, h1, c _ _ _ _ f1 u1 walks_str q⟩
end
section
variable {X : Cx} {p pos : Pos} {k : Nat} {f : Addr} {fd : FuncData} {ps : List Str} {sp : DIn} {x : Str} {dv : List Value}
/-- C(), the one parameter's default the program's empty tuple -/
theorem de_make0 (c : Nat) (M : Mk X.K (Cl.c c).1 f) (F : FnOk X.prog X.w X.K X.mg X.base CX0 k f fd ps (spInit c sp)) (hr : Room (k + 1) X.A) (hm : X.mg x = some (.ref (Cl.c c).1)) (hb : Binds X.K fd ps dv) (hdv : Vals [V.ref Cl.e0] dv) (hg : Gl X x := by rfl)
    (hdb : (x == ("__debug__" : Str)) = false := by decide) :
    De X (.Call (.Name x p) [] [] pos) (fun env m Q => sp [.ext] m fun fs m2 => Q (.obj c fs) m2) := by
  refine ⟨fun w σ H env m Q' Q sl hu h kk => wp_of (L2.pe_make0 M F hr hg hm hb hdv pass0 hdb) ?_⟩
  intro a dx na nd ne
  have f2 : Fr w H (upd (upd H dx (.own a)) a (.ins (Cl.c c).1 dx [])) := fun b o _ e => by rw [upd_ne (ne_of_none e na), upd_ne (ne_of_none e nd)]; exact e
  have na2 : upd H dx (.own a) a = none := by rw [upd_ne (Ne.symm ne)]; exact na
  refine ⟨w, H, a, dx, [.ext], [.ref Cl.e0], m, _, ⟨na, fun b o e => by rw [upd_ne (ne_of_none e na), upd_ne (ne_of_none e nd)]; exact e⟩, rfl, upd_same, by rw [upd_ne ne, upd_same], ne, hu.new na, hu.new nd, .cons (by unfold Hd; rfl) .nil, (hu.upd nd).upd na2, h, fun fs m' H' xs kp u' hp hx q => ⟨rfl, ?_⟩⟩
  refine kk _ _ m' H' (fun b o nb e => kp b o (ne_of_none e na) nb (f2 b o nb e)) u' ?_ q
  unfold Hd
  refine ⟨a, dx, xs, rfl, hu.new na, hu.new nd, ?_, hp, hx⟩
  refine kp dx _ ne (fun z => hu.new nd (.inl z)) ?_
  rw [upd_ne ne, upd_same]
end
theorem lc_map {i : Nat} {de : DE} {env : Env} {ds : List D} {m : Nat} {Q : List D → Nat → Prop} (g : D → D) (he : ∀ d ∈ ds, ∀ mm (R : D → Nat → Prop), R (g d) mm → de (env.set i (some d)) mm R) (q : Q (ds.map g) m) : lcIn (dgName i) dYes de env ds m Q := by
  refine ⟨fun k acc mm => mm = m ∧ acc = (ds.take k).map g, ⟨rfl, rfl⟩, ?_, ?_⟩
  · rintro k d acc mm hd ⟨rfl, rfl⟩
    obtain ⟨hk, e⟩ := List.getElem?_eq_some_iff.mp hd
    have e2 : ds.take (k + 1) = ds.take k ++ [d] := by rw [← List.take_append_getElem hk, e]
    refine he d (List.mem_of_getElem? hd) mm _ ⟨rfl, ?_⟩
    rw [e2, List.map_append]
    rfl
  · rintro acc mm ⟨rfl, rfl⟩
    rw [List.take_length]
    exact q
end TC
namespace TC
open PySem PySem.Spec PyProof.Rows L2 RZ
variable [Cl]
abbrev sRuleI : Stmt := inClass (top 33) 0
abbrev sRuleO : Stmt := inClass (top 33) 1
abbrev sRuleC : Stmt := inClass (top 33) 7
abbrev sRuleS : Stmt := inClass (top 33) 8
abbrev sRowB : Stmt := top 25
abbrev sHost : Stmt := top 45
/-- a method whose parameters have defaults -/
structure AtD (K : PySem.W.Frag) (x qual : Str) (st : Stmt) (ps : List Str) (dvs : List V) (f : Addr) (fd : FuncData) : Prop where
  fn : FunD K x qual (defArgs st) (defBody st) (defScope st) dvs [] f fd
  bd : Binds K fd ps []
  bd0 : ∃ ds, Vals dvs ds ∧ Binds K fd ps ds
/-- the class Rule, as the top has made it, and the defs about it -/
structure RuleC (K : PySem.W.Frag) (mg : Str → Option Value) where
  mc : Value
  (pO fI fO fC fS fB : Addr)
  (dI dO dC dS dB : FuncData)
  e0 : Ez K
  rd : ClX.CRead K (Cl.c 1).1 mc
  cl : Cls K (Cl.c 1).1
  nS : NoAttr K (Cl.c 1).1 "_steps"
  fs : (Cl.c 1).2 = ([("_steps" : Str)] : List Str)
  mgC : mg "Rule" = some (.ref (Cl.c 1).1)
  mkC : Mk K (Cl.c 1).1 fI
  init : AtD K "__init__" "Rule.__init__" sRuleI ["self", "steps"] [V.ref Cl.e0] fI dI
  ofS : SMet K (Cl.c 1).1 mc "of" pO fO
  of : AtM K "of" "Rule.of" sRuleO ["text"] fO dO
  callO : StX.CallO K (Cl.c 1).1 fC
  call : AtM K "__call__" "Rule.__call__" sRuleC ["self", "row"] fC dC
  shO : OpO K (Cl.c 1).1 (PySem.dunder "rshift") fS
  sh : AtM K "__rshift__" "Rule.__rshift__" sRuleS ["self", "other"] fS dS
  is0 : IsF K 1 0 false
  is1 : IsF K 1 1 true
  rb : At K mg "row_behind" sRowB ["steps", "row"] fB dB
section
variable {K : PySem.W.Frag} {mg : Str → Option Value}
theorem RuleC.f0 (S : RuleC K mg) : (Cl.c 1).2[0]? = some ("_steps" : Str) := by rw [S.fs]; rfl
theorem RuleC.nd (S : RuleC K mg) : (Cl.c 1).2.Nodup := by rw [S.fs]; decide +kernel
end
/-- the steps that a Rule keeps -/
def rulT (L : List Stp) : D := .tup (L.map Stp.ob)
def rulD (L : List Stp) : D := .obj 1 [rulT L]
/-- t holds the steps L, for a Rule -/
def RT (K : PySem.W.Frag) (t : D) (L : List Stp) : Prop := t = rulT L ∨ (t = .ext ∧ L = [] ∧ Ez K)
section
variable {P : Program} {w : World} {K : PySem.W.Frag} {mg : Str → Option Value} {base : Heap}
def spRuleI (K : PySem.W.Frag) : DIn := fun ds m Q => ∃ t, ds = [t] ∧ tupD K [t] m fun u mm => Q [u] mm
theorem scRuleI : FnScope ["self", "steps"] ["self", "steps"] (defScope sRuleI) := ⟨rfl, rfl, rfl, by decide +kernel, rfl, by decide +kernel, by decide +kernel⟩
theorem ok_ruleinit (RC : RuleC K mg) (T : Blt mg) : FnOk P w K mg base CX0 1 RC.fI RC.dI ["self", "steps"] (spInit 1 (spRuleI K)) := by
  refine RC.init.fn.ok scRuleI (fun vs H Q E h => ?_) (fun cdv A outer s H vs Q E hr h => ?_)
  · obtain ⟨wd, Hb, a, dx, ds, us, m, Q', _, rfl, _, _, _, _, _, hds, _, ⟨t, rfl, _⟩, _⟩ := h
    have := hds.len
    show us.length + 1 = 2
    rw [this]
    rfl
  · obtain ⟨wd, Hb, a, dx, ds, us, m, Q', ⟨hb, hbH⟩, rfl, ha, hdx, ne, na, ndx, hds, hu, ⟨t, rfl, q⟩, c⟩ := h
    have nd := scRuleI.nd
    refine ⟨_, pss_one (ps_fld (pv 0) (pe_callTy call_tuple_of (by rfl) T.tuple (by decide +kernel) (pa_cons (pv 1) pa_nil)) rfl), ?_⟩
    obtain ⟨v1, r1, rfl, k1, k2⟩ := hds.uncons
    cases k2.unnil
    have na' : wd.u ≠ some a := fun z => na (.inl z)
    have e1 : ∀ v : V, putF "_steps" v [] = (Cl.c 1).2.zip [v] := fun v => by rw [RC.fs]; rfl
    have fin : ∀ o, Fr wd Hb (upd H a o) := fun o b x nu e => by rw [upd_ne (ne_of_none e hb)]; exact hbH b x e
    have same : ∀ v, Hd wd Hb v1 t → v = v1 → ∀ d, t = d → Q' [d] m → Q .non (upd H a (.ins (Cl.c 1).1 dx (putF "_steps" v []))) := fun v h e d ed q => by
      subst e; subst ed
      exact c [t] m _ [v] (fun b o nb nu e => by rw [upd_ne nb]; exact e) (hu.inst na) (by rw [upd_same, e1]) (.cons (h.fr (fin _)) .nil) q
    unfold tupD at q
    split at q
    · rename_i l he
      injection he with he _
      subst he
      have k0 := k1
      rw [Hd.lst] at k1
      obtain ⟨b, vs, rfl, nb, hp, hvs⟩ := k1
      refine ⟨_, rfl, b, vs, rfl, .inl ⟨SqL.of (hbH _ _ hp), fun p hp2 => ?_⟩⟩
      have hpa : p ≠ a := fun z => by rw [z, ha] at hp2; cases hp2
      have hap : upd H p (.tup vs) a = some (.ins (Cl.c 1).1 dx []) := by rw [upd_ne (Ne.symm hpa)]; exact ha
      refine ⟨_, rfl, a, _, dx, [], rfl, hap, RC.cl, RC.nS, (by show 0 < 1000; decide), ?_⟩
      have fr2 : Fr wd Hb (upd (upd H p (.tup vs)) a (.ins (Cl.c 1).1 dx (putF "_steps" (.ref p) []))) := fun b x nu e => by
        rw [upd_ne (ne_of_none e hb), upd_ne (ne_of_none (hbH b x e) hp2)]; exact hbH b x e
      refine c [.tup l] m _ [.ref p] (fun b o nb nu e => by rw [upd_ne nb, upd_ne (ne_of_none e hp2)]; exact e) ((hu.upd hp2).inst na) (by rw [upd_same, e1]) (.cons ?_ .nil) q
      rw [Hd.tup]
      exact ⟨p, vs, rfl, hu.new hp2, by rw [upd_ne hpa, upd_same], hvs.fr fr2⟩
    · rename_i l he
      injection he with he _
      subst he
      have k0 := k1
      rw [Hd.tup] at k1
      obtain ⟨b, vs, rfl, nb, hp, hvs⟩ := k1
      refine ⟨_, rfl, b, vs, rfl, .inr ⟨SqT.of (hbH _ _ hp), ?_⟩⟩
      refine ⟨_, rfl, a, _, dx, [], rfl, ha, RC.cl, RC.nS, (by show 0 < 1000; decide), ?_⟩
      exact same _ k0 rfl _ rfl q
    · rename_i he
      injection he with he _
      subst he
      have k0 := k1
      unfold Hd at k1
      obtain ⟨h0, q⟩ := q
      subst k1
      refine ⟨_, rfl, _, [], rfl, .inr ⟨h0.sq, ?_⟩⟩
      refine ⟨_, rfl, a, _, dx, [], rfl, ha, RC.cl, RC.nS, (by show 0 < 1000; decide), ?_⟩
      exact same _ k0 rfl _ rfl q
    · exact q.elim
/-! ### a row behind steps -/
def spRowB (K : PySem.W.Frag) : DSp := fun ds m Q => ∃ (t a : D) (L : List Stp) (l : List Str), ds = [t, a] ∧ (RT K t L ∨ t = .lst (L.map Stp.ob)) ∧ (∀ s ∈ L, s.ok) ∧ Sq a (l.map D.str) ∧ l.length + L.length ≤ 1000 ∧ Q (.tup ((goes L l).map D.str)) m
theorem scRowB : FnScope ["steps", "row", "step"] ["steps", "row"] (defScope sRowB) := ⟨rfl, rfl, rfl, by decide +kernel, rfl, by decide +kernel, by decide +kernel⟩
theorem ok_rowb (RC : RuleC K mg) (S : StepC K mg) (R : RowsF K mg) (T : Blt mg) : FnOk P w K mg base CX0 5 RC.fB RC.dB ["steps", "row"] (spD (spRowB K)) := by
  refine fnD RC.rb.fn scRowB ?_ fun cdv A outer s H E ds m Q' hr h => ?_
  · rintro ds m Q ⟨t, a, L, l, rfl, _⟩
    rfl
  · obtain ⟨t, a, L, l, rfl, ht, hL, ha, hl, q⟩ := h
    have nd := scRowB.nd
    refine ⟨_, (dss_cons (ds_for PassesOwn.never rfl (di_var 0 (dv 0)) (dg_name (i := 2) nd)
 (dss_one (ds_set (i := 1) nd (de_call (ok_rbs R T) (hr.mono (by decide)) R.rbs.mg R.rbs.fn.kp R.rbs.bd (da_cons (de_prop 0 (dv 2) S.cl S.kindP (ok_kind S) (hr.mono (by decide)) S.kind.bd) (da_cons (de_prop 0 (dv 2) S.cl S.whatP (ok_what S) (hr.mono (by decide)) S.what.bd) (da_cons (dv 1) da_nil)))))))
 (dss_one (ds_ret (de_callTy dc_tupleA T.tuple (da_cons (dv 1) da_nil))))), ?_⟩
    have small : ∀ n : Nat, n ≤ 1001 → n < sizeLine := fun n h => Nat.lt_of_le_of_lt h (by decide)
    have hw : ∀ R : List D → Prop, R (L.map Stp.ob) → walkD K t R := fun R hR => by
      rcases ht with (rfl | ⟨rfl, rfl, h0⟩) | rfl
      · exact hR
      · exact ⟨h0, hR⟩
      · exact hR
    refine ⟨t, rfl, hw _ ?_⟩
    refine ⟨fun i env mm => ∃ (b : D) (o2 : Option D), env = [some t, some b, o2] ∧ Sq b ((goes (L.take i) l).map D.str) ∧ mm = m, ⟨a, none, rfl, ha, rfl⟩, ?_, ?_⟩
    · rintro i d env mm hd ⟨b, o2, rfl, hb, rfl⟩
      obtain ⟨hi, rfl⟩ : ∃ h : i < L.length, d = L[i].ob := by
        rw [List.getElem?_map] at hd
        cases e : L[i]? with
        | none => rw [e] at hd; cases hd
        | some s =>
          rw [e] at hd
          obtain ⟨h, e2⟩ := List.getElem?_eq_some_iff.mp e
          exact ⟨h, by rw [e2]; exact (Option.some.inj hd).symm⟩
      have hgo : goes (L.take (i + 1)) l = L[i].go (goes (L.take i) l) := by
        rw [← List.take_append_getElem hi, goes_app]; rfl
      have hok := hL L[i] (List.getElem_mem hi)
      have hcl : (goes (L.take i) l).length ≤ 1000 := by
        have := goes_len (L.take i) l
        rw [List.length_take] at this
        omega
      refine ⟨_, rfl, _, rfl, _, _, rfl, ?_⟩
      refine ⟨_, rfl, _, rfl, _, _, rfl, ?_⟩
      refine ⟨_, rfl, _, _, b, (goes (L.take i) l).map D.str, rfl, Stp.ok_b hok, hb, strs_flat _, small _ (by rw [List.length_map]; omega), ?_⟩
      rw [stepR_go hok, ← hgo]
      exact ⟨_, _, rfl, .inl rfl, rfl⟩
    · rintro env mm ⟨b, o2, rfl, hb, rfl⟩
      rw [List.length_map, List.take_length] at hb
      refine ⟨_, rfl, ?_⟩
      rcases hb with rfl | rfl <;> exact q
def spRuleC (K : PySem.W.Frag) : DSp := fun ds m Q => ∃ (t a : D) (L : List Stp) (l : List Str), ds = [.obj 1 [t], a] ∧ RT K t L ∧ (∀ s ∈ L, s.ok) ∧ Sq a (l.map D.str) ∧ l.length + L.length ≤ 1000 ∧ Q (.tup ((goes L l).map D.str)) m
theorem scRuleC : FnScope ["self", "row"] ["self", "row"] (defScope sRuleC) := ⟨rfl, rfl, rfl, by decide +kernel, rfl, by decide +kernel, by decide +kernel⟩
theorem ok_rulecall (RC : RuleC K mg) (S : StepC K mg) (R : RowsF K mg) (T : Blt mg) : FnOk P w K mg base CX0 6 RC.fC RC.dC ["self", "row"] (spD (spRuleC K)) := by
  refine fnD RC.call.fn scRuleC ?_ fun cdv A outer s H E ds m Q' hr h => ?_
  · rintro ds m Q ⟨t, a, L, l, rfl, _⟩
    rfl
  · obtain ⟨t, a, L, l, rfl, ht, hL, ha, hl, q⟩ := h
    have nd := scRuleC.nd
    refine ⟨_, (dss_one (ds_ret (de_call (ok_rowb RC S R T) (hr.mono (by decide)) RC.rb.mg RC.rb.fn.kp RC.rb.bd (da_cons (de_fld 1 0 (dv 0) RC.cl RC.nS RC.f0 RC.nd) (da_cons (dv 1) da_nil))))), ?_⟩
    exact ⟨_, rfl, _, _, rfl, rfl, _, rfl, t, a, L, l, rfl, .inl ht, hL, ha, hl, q⟩
/-- a >> b -/
def spRuleS (K : PySem.W.Frag) : DSp := fun ds m Q => ∃ (t u : D) (L M : List Stp), ds = [.obj 1 [t], .obj 1 [u]] ∧ RT K t L ∧ RT K u M ∧ L.length + M.length ≤ 1000 ∧ Q (rulD (L ++ M)) m
theorem scRuleS : FnScope ["self", "other"] ["self", "other"] (defScope sRuleS) := ⟨rfl, rfl, rfl, by decide +kernel, rfl, by decide +kernel, by decide +kernel⟩
theorem RT.star {K : PySem.W.Frag} {t : D} {L : List Stp} (h : RT K t L) : t = .tup (L.map Stp.ob) ∨ t = .lst (L.map Stp.ob) ∨ (t = .ext ∧ L.map Stp.ob = [] ∧ Ez K) := by
  rcases h with rfl | ⟨rfl, rfl, h⟩
  · exact .inl rfl
  · exact .inr (.inr ⟨rfl, rfl, h⟩)
theorem ok_ruleshift (RC : RuleC K mg) (S : StepC K mg) (R : RowsF K mg) (T : Blt mg) : FnOk P w K mg base CX0 3 RC.fS RC.dS ["self", "other"] (spD (spRuleS K)) := by
  refine fnD RC.sh.fn scRuleS ?_ fun cdv A outer s H E ds m Q' hr h => ?_
  · rintro ds m Q ⟨t, u, L, M, rfl, _⟩
    rfl
  · obtain ⟨t, u, L, M, rfl, ht, hu, hl, q⟩ := h
    have nd := scRuleS.nd
    refine ⟨_, dss_cons (ds_if (dt_val (de_isiO 0 T.isinstance (dv 1) S.mgC)) dss_never dss_nil)
      (dss_cons (ds_if (dt_val (de_isiO 1 T.isinstance (dv 1) RC.mgC))
        (dss_one (ds_ret (de_make 1 RC.mkC (ok_ruleinit RC T) (hr.mono (by decide)) RC.mgC RC.init.bd (da_cons (de_tup (da_star (de_fld 1 0 (dv 0) RC.cl RC.nS RC.f0 RC.nd) (da_star (de_fld 1 0 (dv 1) RC.cl RC.nS RC.f0 RC.nd) da_nil))) da_nil)))) dss_nil)
      dss_never), ?_⟩
    refine ⟨_, rfl, _, _, _, rfl, RC.is0, _, rfl, iteF ?_⟩
    refine ⟨_, rfl, _, _, _, rfl, RC.is1, _, rfl, iteT ?_⟩
    refine ⟨_, rfl, _, _, rfl, rfl, _, ht.star, _, rfl, _, _, rfl, rfl, _, hu.star, ?_, ?_⟩
    · refine Nat.le_trans ?_ (show 1000 ≤ sizeLine by decide)
      rw [List.append_nil, List.length_append, List.length_map, List.length_map]
      exact hl
    · refine ⟨_, rfl, ?_⟩
      rw [List.append_nil, ← List.map_append]
      exact q
/-- a text, parsed -/
def partOk (p : Str) (s : Stp) : Prop := p.length ≤ sizeLine ∧ (Txt.partition p " ").2.2.length ≤ sizeLine ∧ parseS p = some (s.kind, s.what)
inductive Parts : List Str → List Stp → Prop where
  | nil : Parts [] []
  | cons {p : Str} {s : Stp} {ps : List Str} {L : List Stp} (h : partOk p s) (r : Parts ps L) : Parts (p :: ps) (s :: L)
theorem Parts.len : ∀ {ps : List Str} {L : List Stp}, Parts ps L → ps.length = L.length
  | _, _, .nil => rfl
  | _, _, .cons _ r => congrArg Nat.succ r.len
theorem Parts.at : ∀ {ps : List Str} {L : List Stp} {i : Nat} {p : Str}, Parts ps L → ps[i]? = some p → ∃ s, L[i]? = some s ∧ partOk p s
  | _, _, i, p, .nil, e => by simp at e
  | _, _, 0, p, .cons h r, e => by simp at e; subst e; exact ⟨_, rfl, h⟩
  | _, _, i + 1, p, .cons h r, e => by
    obtain ⟨s, e2, h2⟩ := r.at (i := i) (by simpa using e)
    exact ⟨s, by simpa using e2, h2⟩
/-- the text of a Rule with these steps, at least one -/
structure RuleP (z : Str) (L : List Stp) : Prop where
  ne : z ≠ "-"
  len : z.length + 2 ≤ sizeLine
  n : L.length ≤ 1000
  parts : Parts (Txt.split z "; ") L
def spRuleO (K : PySem.W.Frag) : DSp := fun ds m Q => ∃ z, ds = [.str z] ∧ ((z = "-" ∧ Ez K ∧ Q (.obj 1 [.ext]) m) ∨ ∃ L, RuleP z L ∧ Q (rulD L) m)
def partsB : List Str → List Stp → Bool
  | [], [] => true
  | p :: ps, s :: L => (match parseS p with | some (a, b) => decide (a = s.kind) && beqD b s.what | none => false) && decide (p.length ≤ sizeLine) && decide ((Txt.partition p " ").2.2.length ≤ sizeLine) && partsB ps L
  | _, _ => false
theorem partsB_ok : ∀ {ps : List Str} {L : List Stp}, partsB ps L = true → Parts ps L
  | [], [], _ => .nil
  | p :: ps, s :: L, h => by
    simp only [partsB, Bool.and_eq_true, decide_eq_true_eq] at h
    obtain ⟨⟨⟨h1, h2⟩, h3⟩, h4⟩ := h
    refine .cons ⟨h2, h3, ?_⟩ (partsB_ok h4)
    cases e : parseS p with
    | none => rw [e] at h1; cases h1
    | some q =>
      obtain ⟨a, b⟩ := q
      rw [e] at h1
      simp only [Bool.and_eq_true, decide_eq_true_eq] at h1
      rw [h1.1, beqD_eq h1.2]
  | [], s :: L, h => by simp [partsB] at h
  | p :: ps, [], h => by simp [partsB] at h
theorem rp_of {z : Str} {L : List Stp} (h1 : (!decide (z = "-") && decide (z.length + 2 ≤ sizeLine) && decide (L.length ≤ 1000) && partsB (Txt.split z "; ") L) = true) : RuleP z L := by
  simp only [Bool.and_eq_true, Bool.not_eq_true', decide_eq_true_eq, decide_eq_false_iff_not] at h1
  exact ⟨h1.1.1.1, h1.1.1.2, h1.1.2, partsB_ok h1.2⟩
def Stp.okb : Stp → Bool
  | .touch t => isNm (.str t) && decide (t.length ≤ sizeLine)
  | .forget t => isNm (.str t) && decide (t.length ≤ sizeLine)
  | .cap n => decide (1 ≤ n)
theorem oks_of {L : List Stp} (h : L.all Stp.okb = true) : ∀ s ∈ L, s.ok := fun s hs => by
  have := List.all_eq_true.mp h s hs
  cases s with
  | touch t => simp only [Stp.okb, Bool.and_eq_true, decide_eq_true_eq] at this; exact this
  | forget t => simp only [Stp.okb, Bool.and_eq_true, decide_eq_true_eq] at this; exact this
  | cap n => simp only [Stp.okb, decide_eq_true_eq] at this; exact this
def isStr : D → Bool
  | .str _ => true
  | _ => false
theorem str_un {ds : List D} (h : ds.all isStr = true) : (ds.map unD).map D.str = ds := by
  rw [List.map_map]
  have : ∀ d ∈ ds, (D.str ∘ unD) d = d := fun d hd => by
    have := List.all_eq_true.mp h d hd
    cases d <;> first | rfl | cases this
  rw [List.map_congr_left this, List.map_id']
theorem sqT_of {ds : List D} (h : ds.all isStr = true) : Sq (.tup ds) ((ds.map unD).map D.str) := .inl (by rw [str_un h])
theorem sqL_of {ds : List D} (h : ds.all isStr = true) : Sq (.lst ds) ((ds.map unD).map D.str) := .inr (by rw [str_un h])
theorem scRuleO : FnScope ["text", "part"] ["text"] (defScope sRuleO) := ⟨rfl, rfl, rfl, by decide +kernel, rfl, by decide +kernel, by decide +kernel⟩
theorem ok_ruleof (RC : RuleC K mg) (S : StepC K mg) (R : RowsF K mg) (T : Blt mg) : FnOk P w K mg base CX0 6 RC.fO RC.dO ["text"] (spD (spRuleO K)) := by
  refine fnD RC.of.fn scRuleO ?_ fun cdv A outer s H E ds m Q' hr h => ?_
  · rintro ds m Q ⟨z, rfl, _⟩
    rfl
  · obtain ⟨z, rfl, h⟩ := h
    have nd := scRuleO.nd
    obtain ⟨dv0, hv0, hb0⟩ := RC.init.bd0
    refine ⟨_, (dss_cons (ds_if (dt_cmp do_eq (dv 0) de_str)
 (dss_one (ds_ret (de_make0 1 RC.mkC (ok_ruleinit RC T) (hr.mono (by decide)) RC.mgC hb0 hv0)))
 dss_nil)
 (dss_one (ds_ret (de_make 1 RC.mkC (ok_ruleinit RC T) (hr.mono (by decide)) RC.mgC RC.init.bd (da_cons (de_lc (own := [("part", 1)]) rfl nd (di_lst (de_split (dv 0) de_str) (pi_list pe_self)) (blkOk_by (N := ["text", "part"]) (sc := defScope sRuleO) (by decide +kernel)) (fun _ _ _ _ _ => dg_name (i := 1) nd) (fun _ _ _ _ _ => dts_nil) (fun _ _ _ _ _ => (de_smeth S.rd S.ofS (ok_stepof S R T) (hr.mono (by decide)) S.mgC S.of.bd (da_cons (dv 1) da_nil)))) da_nil))))), ?_⟩
    refine ⟨_, rfl, rfl, rfl, rfl, _, rfl, ?_⟩
    show if decide (fv (.str z) = fv (.str "-")) = true then _ else _
    rw [dec_str]
    rcases h with ⟨rfl, h0, q⟩ | ⟨L, ⟨hz, hzl, hL, hp⟩, q⟩
    · rw [decide_eq_true rfl]
      exact iteT ⟨.ext, rfl, h0, q⟩
    · rw [decide_eq_false hz]
      refine iteF ?_
      dsimp only [dRet, dSet, dSeq, dCall, dCons, dNil, dTup, dLst, dIfS, dPar, dNext, dStar]
      refine ⟨_, rfl, z, rfl, "; ", rfl, rfl, hzl, _, rfl, by rw [List.length_map, hp.len]; exact Nat.le_trans hL (by decide), ?_⟩
      refine ⟨fun i acc mm => mm = m ∧ acc = (L.take i).map Stp.ob, ⟨rfl, rfl⟩, ?_, ?_⟩
      · rintro i d acc mm hd ⟨rfl, rfl⟩
        rw [List.getElem?_map] at hd
        cases e : (Txt.split z "; ")[i]? with
        | none => rw [e] at hd; cases hd
        | some p =>
          rw [e] at hd
          cases hd
          obtain ⟨s, es, h1, h2, h3⟩ := hp.at e
          refine ⟨_, rfl, ?_⟩
          refine ⟨p, _, _, rfl, h1, h2, h3, rfl, ?_⟩
          obtain ⟨hi, e2⟩ := List.getElem?_eq_some_iff.mp es
          rw [← List.take_append_getElem hi, e2, List.map_append]
          rfl
      · rintro acc mm ⟨rfl, rfl⟩
        rw [List.length_map, hp.len, List.take_length]
        exact ⟨_, rfl, q⟩
/-- a line as a Rule -/
def spHost : DSp := fun ds m Q => ∃ (a : D) (L : List Stp), ds = [a] ∧ Sq a (L.map Stp.pr) ∧ (∀ s ∈ L, s.ok) ∧ L.length ≤ 1000 ∧ Q (rulD L) m
theorem scHost : FnScope ["_law_line_so", "_law_kind_so", "_law_what_so"] ["_law_line_so"] (defScope sHost) := ⟨rfl, rfl, rfl, by decide +kernel, rfl, by decide +kernel, by decide +kernel⟩
theorem ok_host {f : Addr} {fd : FuncData} (F : Fun K "_law_host" "_law_host" sHost f fd) (RC : RuleC K mg) (S : StepC K mg) (R : RowsF K mg) (T : Blt mg) : FnOk P w K mg base CX0 5 f fd ["_law_line_so"] (spD spHost) := by
  refine fnD F scHost ?_ fun cdv A outer s H E ds m Q' hr h => ?_
  · rintro ds m Q ⟨a, L, rfl, _⟩
    rfl
  · obtain ⟨a, L, rfl, ha, hL, hl, q⟩ := h
    have nd := scHost.nd
    refine ⟨_, (dss_one (ds_ret (de_make 1 RC.mkC (ok_ruleinit RC T) (hr.mono (by decide)) RC.mgC RC.init.bd (da_cons (de_lc (own := [("_law_kind_so", 1), ("_law_what_so", 2)]) rfl nd (di_var 0 (dv 0)) (blkOk_by (N := ["_law_line_so", "_law_kind_so", "_law_what_so"]) (sc := defScope sHost) (by decide +kernel)) (fun _ _ _ _ _ => dg_tup2 (i := 1) (j := 2) rfl nd) (fun _ _ _ _ _ => dts_nil) (fun _ _ _ _ _ => (de_make 0 S.mkC (ok_stepinit S R T) (hr.mono (by decide)) S.mgC S.init.bd (da_cons (dv 1) (da_cons (dv 2) da_nil))))) da_nil)))), ?_⟩
    dsimp only [dRet, dSet, dSeq, dCall, dCons, dNil, dTup, dLst, dIfS, dPar, dNext, dStar]
    have ha2 : ∀ R : List D → Prop, R (L.map Stp.pr) → walkD K a R := fun R hR => by rcases ha with rfl | rfl <;> exact hR
    refine ⟨_, rfl, ha2 _ ⟨by rw [List.length_map]; exact Nat.le_trans hl (by decide), ?_⟩⟩
    refine ⟨fun i acc mm => mm = m ∧ acc = (L.take i).map Stp.ob, ⟨rfl, rfl⟩, ?_, ?_⟩
    · rintro i d acc mm hd ⟨rfl, rfl⟩
      obtain ⟨hi, rfl⟩ : ∃ h : i < L.length, d = L[i].pr := by
        rw [List.getElem?_map] at hd
        cases e : L[i]? with
        | none => rw [e] at hd; cases hd
        | some s =>
          rw [e] at hd
          obtain ⟨h, e2⟩ := List.getElem?_eq_some_iff.mp e
          exact ⟨h, by rw [e2]; exact (Option.some.inj hd).symm⟩
      refine ⟨_, _, rfl, _, rfl, _, rfl, _, _, rfl, Stp.ok_b (hL _ (List.getElem_mem hi)), rfl, ?_⟩
      rw [← List.take_append_getElem hi, List.map_append]
      rfl
    · rintro acc mm ⟨rfl, rfl⟩
      rw [List.length_map, List.take_length]
      exact ⟨_, rfl, q⟩
end
end TC
namespace TC
open PySem PySem.Spec PyProof.Rows L2 RZ
variable [Cl]
abbrev sFresh : Stmt := top 42
abbrev sWord : Stmt := top 46
/-! ### texts of steps -/
def Stp.fine : Stp → Prop
  | .touch t => Nm t
  | .forget t => Nm t
  | .cap n => 1 ≤ n ∧ n < 100000000000000000000000000000000000000000
theorem nm_is {z : Str} (h : Nm z) : isNm (.str z) = true ∧ z.length ≤ sizeLine := by
  refine ⟨?_, Nat.le_trans h.len (by decide)⟩
  show (decide (0 < z.length) && (cp z).all low) = true
  rw [decide_eq_true h.pos, Bool.true_and, List.all_eq_true]
  intro c hc
  obtain ⟨h1, h2⟩ := h.low c hc
  show (decide (97 ≤ c) && decide (c ≤ 122)) = true
  rw [decide_eq_true h1, decide_eq_true h2]; rfl
theorem Stp.fine.ok {s : Stp} (h : s.fine) : s.ok := by
  cases s with
  | touch t => exact nm_is h
  | forget t => exact nm_is h
  | cap n => exact h.1
theorem of_fine {ts : List Str} {high : Int} {s : Stp} (hN : ∀ t ∈ ts, Nm t) (hh : high < 100000000000000000000000000000000000000000) (h : s.of ts high) : s.fine := by
  cases s with
  | touch t => exact hN t h
  | forget t => exact hN t h
  | cap n => exact ⟨h.1, by have := h.2; omega⟩
def Stp.whatS : Stp → Str
  | .touch t => t
  | .forget t => t
  | .cap n => Str.ofString (toString n)
def Stp.word (s : Stp) : Str := s.kind ++ " " ++ s.whatS
def wordL (L : List Stp) : Str := if L.isEmpty = true then "-" else Txt.join "; " (L.map Stp.word)
theorem num_cp {n : Int} (h : 1 ≤ n) : cp (Str.ofString (toString n)) = TL.numL n.toNat := by
  have e : n = ((n.toNat : Nat) : Int) := by omega
  rw [e]
  exact TL.tl_num _
theorem len_app (x y : Str) : (x ++ y).length = x.length + y.length := by
  rw [← cp_len, cp_app, List.length_append, cp_len, cp_len]
theorem num_len {n : Int} (h : 1 ≤ n) (h2 : n < 100000000000000000000000000000000000000000) : (Str.ofString (toString n)).length ≤ 41 := by
  rw [← cp_len, num_cp h]
  exact TL.numL_len (by decide) (by have : (10 ^ 41 : Nat) = 100000000000000000000000000000000000000000 := by decide +kernel
                                    omega)
theorem what_len {s : Stp} (h : s.fine) : s.whatS.length ≤ 41 := by
  cases s with
  | touch t => have := Nm.len h; exact Nat.le_trans this (by decide)
  | forget t => have := Nm.len h; exact Nat.le_trans this (by decide)
  | cap n => exact num_len h.1 h.2
theorem kind_len (s : Stp) : s.kind.length ≤ 6 := by
  cases s with
  | touch t => exact (show ("touch" : Str).length ≤ 6 by decide +kernel)
  | forget t => exact (show ("forget" : Str).length ≤ 6 by decide +kernel)
  | cap n => exact (show ("cap" : Str).length ≤ 6 by decide +kernel)
theorem word_len {s : Stp} (h : s.fine) : s.word.length ≤ 48 := by
  have h1 := what_len h
  have h2 := kind_len s
  have h3 : (" " : Str).length = 1 := by decide +kernel
  unfold Stp.word
  rw [len_app, len_app]
  omega
theorem head_num : ∀ n : Nat, 1 ≤ n → (TL.numL n).head? ≠ some 48 := by
  intro n
  induction n using Nat.strongRecOn with
  | _ n ih =>
    intro h
    by_cases h10 : n < 10
    · rw [TL.numL_lt h10]
      simp
      omega
    · rw [TL.numL_step (by omega)]
      have h1 := ih (n / 10) (by omega) (by omega)
      have h2 := TL.numL_ne (n / 10)
      cases e : TL.numL (n / 10) with
      | nil => exact absurd e h2
      | cons c r => rw [e] at h1; simpa using h1
theorem num_is {n : Int} (h : 1 ≤ n) (h2 : n < 100000000000000000000000000000000000000000) : isNum (Str.ofString (toString n)) = true := by
  have e := num_cp h
  unfold isNum
  have h0 : 0 < (Str.ofString (toString n)).length := by
    rw [← cp_len, e]
    exact List.length_pos_iff.mpr (TL.numL_ne _)
  rw [decide_eq_true h0, e, Bool.true_and, Bool.and_eq_true]
  refine ⟨?_, ?_⟩
  · rw [List.all_eq_true]
    intro c hc
    have := TL.numL_digits _ c hc
    show (decide (48 ≤ c) && decide (c ≤ 57)) = true
    rw [decide_eq_true this.1, decide_eq_true this.2]; rfl
  · rw [Bool.or_eq_true]
    refine .inr ?_
    rw [Bool.not_eq_true', decide_eq_false_iff_not]
    exact head_num _ (by omega)
theorem name_num {t : Str} (h : Nm t) : isNum t = false := by
  unfold isNum
  have hp := h.pos
  have : (cp t).all dig = false := by
    cases e : cp t with
    | nil => have := cp_len t; rw [e] at this; simp at this; omega
    | cons c r =>
      have := h.low c (by rw [e]; exact List.mem_cons_self ..)
      rw [List.all_cons]
      have hd : dig c = false := by
        show (decide (48 ≤ c) && decide (c ≤ 57)) = false
        rw [decide_eq_false (show ¬ c ≤ 57 by omega), Bool.and_false]
      rw [hd, Bool.false_and]
  rw [this, Bool.and_false, Bool.false_and]
theorem kind_free (s : Stp) {c : Nat} (hc : c = 32 ∨ c = 59) : c ∉ TL.tl s.kind := by
  have h : ∀ k : Str, k = "touch" ∨ k = "forget" ∨ k = "cap" → c ∉ TL.tl k := fun k hk => by
    rcases hk with rfl | rfl | rfl <;> rcases hc with rfl | rfl <;> decide +kernel
  cases s with
  | touch t => exact h _ (.inl rfl)
  | forget t => exact h _ (.inr (.inl rfl))
  | cap n => exact h _ (.inr (.inr rfl))
theorem what_free {s : Stp} (h : s.fine) {c : Nat} (hc : c = 32 ∨ c = 59) : c ∉ TL.tl s.whatS := by
  have nm : ∀ t : Str, Nm t → c ∉ TL.tl t := fun t ht hm => by
    have := ht.low c hm
    omega
  cases s with
  | touch t => exact nm t h
  | forget t => exact nm t h
  | cap n =>
    show c ∉ cp (Str.ofString (toString n))
    rw [num_cp h.1]
    exact TL.numL_free (by omega)
theorem word_part {s : Stp} (h : s.fine) : Txt.partition s.word " " = (s.kind, (" " : Str), s.whatS) := TL.partition_app (s := 32) (S := []) (by decide +kernel) (kind_free s (.inl rfl))
theorem word_ok {s : Stp} (h : s.fine) : partOk s.word s := by
  have e := word_part h
  refine ⟨Nat.le_trans (word_len h) (by decide), ?_, ?_⟩
  · rw [e]; exact Nat.le_trans (what_len h) (by decide)
  · unfold parseS
    rw [e]
    dsimp only
    have hb := Stp.ok_b h.ok
    cases s with
    | touch t =>
      rw [if_neg (by rw [show isNum (Stp.touch t).whatS = false from name_num h]; exact Bool.false_ne_true)]
      exact if_pos hb
    | forget t =>
      rw [if_neg (by rw [show isNum (Stp.forget t).whatS = false from name_num h]; exact Bool.false_ne_true)]
      exact if_pos hb
    | cap n =>
      have hnum : isNum (Stp.cap n).whatS = true := num_is h.1 h.2
      rw [if_pos hnum]
      have hi : PySem.intText? (Stp.cap n).whatS = some n := by
        have e2 : n = ((n.toNat : Nat) : Int) := by have := h.1; omega
        show PySem.intText? (Str.ofString (toString n)) = some n
        have hl := num_len h.1 h.2
        rw [← cp_len, num_cp h.1] at hl
        have := TL.int_num (n := n.toNat) (by omega)
        rw [← e2] at this
        exact this
      rw [hi]
      dsimp only
      rw [show stepB (Stp.cap n).kind (.int n) = true from hb, decide_eq_true (show (Stp.cap n).whatS.length ≤ 640 from Nat.le_trans (num_len h.1 h.2) (by decide))]
      rfl
theorem word_free {s : Stp} (h : s.fine) : 59 ∉ TL.tl s.word := by
  intro hm
  have e : TL.tl s.word = TL.tl s.kind ++ TL.tl " " ++ TL.tl s.whatS := by
    show cp (s.kind ++ " " ++ s.whatS) = _
    rw [cp_app, cp_app]; rfl
  rw [e, List.mem_append, List.mem_append] at hm
  rcases hm with (hm | hm) | hm
  · exact kind_free s (.inr rfl) hm
  · exact absurd hm (by decide +kernel)
  · exact what_free h (.inr rfl) hm
theorem parts_of : ∀ {L : List Stp}, (∀ s ∈ L, s.fine) → Parts (L.map Stp.word) L
  | [], _ => .nil
  | s :: L, h => .cons (word_ok (h s (List.mem_cons_self ..))) (parts_of fun x hx => h x (List.mem_cons_of_mem _ hx))
theorem split_word {L : List Stp} (h : ∀ s ∈ L, s.fine) (hne : L ≠ []) : Txt.split (Txt.join "; " (L.map Stp.word)) "; " = L.map Stp.word := by
  refine TL.split_join (s := 59) (S := [32]) (by decide +kernel) (by decide +kernel) (fun e => hne (List.map_eq_nil_iff.mp e)) fun p hp => ?_
  obtain ⟨s, hs, rfl⟩ := List.mem_map.mp hp
  exact word_free (h s hs)
theorem joinL_len (S : List Nat) : ∀ ps : List (List Nat), (TL.joinL S ps).length ≤ (ps.map List.length).sum + ps.length * S.length
  | [] => Nat.zero_le _
  | [p] => by simp [TL.joinL]
  | p :: q :: r => by
    have := joinL_len S (q :: r)
    rw [TL.joinL, List.length_append, List.length_append, List.map_cons, List.sum_cons, List.length_cons, Nat.succ_mul]
    omega
theorem join_len (y : Str) (ps : List Str) : (Txt.join y ps).length ≤ (ps.map (·.length)).sum + ps.length * y.length := by
  have h := joinL_len (TL.tl y) (ps.map TL.tl)
  rw [List.map_map, List.length_map] at h
  have e : (ps.map (List.length ∘ TL.tl)) = ps.map (·.length) := List.map_congr_left fun p _ => cp_len p
  rw [e] at h
  have e2 : (TL.tl y).length = y.length := cp_len y
  rw [e2] at h
  rw [← cp_len]
  show (TL.tl (Txt.join y ps)).length ≤ _
  rw [TL.join_eq, TL.tl_join]
  exact h
theorem words_sum : ∀ {L : List Stp}, (∀ s ∈ L, s.fine) → ((L.map Stp.word).map (·.length)).sum ≤ 48 * L.length
  | [], _ => Nat.zero_le _
  | s :: L, h => by
    have h1 := words_sum (L := L) fun x hx => h x (List.mem_cons_of_mem _ hx)
    have h2 := word_len (h s (List.mem_cons_self ..))
    rw [List.map_cons, List.map_cons, List.sum_cons, List.length_cons]
    omega
theorem words_len {L : List Stp} (h : ∀ s ∈ L, s.fine) : ((L.map Stp.word).map (·.length)).sum + (L.map Stp.word).length * ("; " : Str).length ≤ 50 * L.length := by
  have h1 := words_sum h
  have h2 : ("; " : Str).length = 2 := by decide +kernel
  rw [h2, List.length_map]
  omega
section
variable {P : Program} {w : World} {K : PySem.W.Frag} {mg : Str → Option Value} {base : Heap}
def spWord : DSp := fun ds m Q => ∃ (a : D) (L : List Stp), ds = [a] ∧ Sq a (L.map Stp.pr) ∧ (∀ s ∈ L, s.fine) ∧ L.length ≤ 1000 ∧ Q (.str (wordL L)) m
theorem scWord : FnScope ["_law_line_so", "_law_kind_so", "_law_what_so"] ["_law_line_so"] (defScope sWord) := ⟨rfl, rfl, rfl, by decide +kernel, rfl, by decide +kernel, by decide +kernel⟩
theorem ok_word {f : Addr} {fd : FuncData} (F : Fun K "_law_word" "_law_word" sWord f fd) (T : Blt mg) : FnOk P w K mg base CX0 1 f fd ["_law_line_so"] (spD spWord) := by
  refine fnD F scWord ?_ fun cdv A outer s H E ds m Q' hr h => ?_
  · rintro ds m Q ⟨a, L, rfl, _⟩
    rfl
  · obtain ⟨a, L, rfl, ha, hL, hl, q⟩ := h
    have nd := scWord.nd
    refine ⟨_, (dss_one (ds_ret (de_orT (de_join de_str (de_lc (own := [("_law_kind_so", 1), ("_law_what_so", 2)]) rfl nd (di_var 0 (dv 0)) (blkOk_by (N := ["_law_line_so", "_law_kind_so", "_law_what_so"]) (sc := defScope sWord) (by decide +kernel)) (fun _ _ _ _ _ => dg_tup2 (i := 1) (j := 2) rfl nd) (fun _ _ _ _ _ => dts_nil) (fun _ _ _ _ _ => (de_op do_add (de_op do_add (dv 1) de_str) (de_callTy dc_strA T.str (da_cons (dv 2) da_nil)))))) (de_one de_str)))), ?_⟩
    dsimp only [dRet, dSet, dSeq, dCall, dCons, dNil, dTup, dLst, dIfS, dPar, dNext, dStar]
    have ha2 : ∀ R : List D → Prop, R (L.map Stp.pr) → walkD K a R := fun R hR => by rcases ha with rfl | rfl <;> exact hR
    refine ⟨"; ", rfl, _, rfl, ha2 _ ⟨by rw [List.length_map]; exact Nat.le_trans hl (by decide), ?_⟩⟩
    refine ⟨fun i acc mm => mm = m ∧ acc = ((L.take i).map Stp.word).map D.str, ⟨rfl, rfl⟩, ?_, ?_⟩
    · rintro i d acc mm hd ⟨rfl, rfl⟩
      obtain ⟨hi, rfl⟩ : ∃ h : i < L.length, d = L[i].pr := by
        rw [List.getElem?_map] at hd
        cases e : L[i]? with
        | none => rw [e] at hd; cases hd
        | some s =>
          rw [e] at hd
          obtain ⟨h, e2⟩ := List.getElem?_eq_some_iff.mp e
          exact ⟨h, by rw [e2]; exact (Option.some.inj hd).symm⟩
      have hf := hL _ (List.getElem_mem hi)
      have fin : ((L.take i).map Stp.word).map D.str ++ [D.str (L[i].word)] = ((L.take (i + 1)).map Stp.word).map D.str := by
        rw [← List.take_append_getElem hi, List.map_append, List.map_append]; rfl
      have h1 := kind_len L[i]
      have h2 := what_len hf
      have h3 : (" " : Str).length = 1 := by decide +kernel
      have s1 : ∀ n : Nat, n ≤ 1000 → n ≤ sizeLine := fun n h => Nat.le_trans h (by decide)
      generalize hs : L[i] = s at hf fin h1 h2 ⊢
      cases s with
      | touch t =>
        have h2 : t.length ≤ 41 := h2
        refine ⟨_, _, rfl, _, rfl, s1 _ (by rw [h3]; omega), _, rfl, s1 _ (by rw [len_app, h3]; omega), rfl, fin⟩
      | forget t =>
        have h2 : t.length ≤ 41 := h2
        refine ⟨_, _, rfl, _, rfl, s1 _ (by rw [h3]; omega), _, rfl, s1 _ (by rw [len_app, h3]; omega), rfl, fin⟩
      | cap n =>
        have hlog : n.natAbs.log2 < 1920 := by
          have h0 : n.natAbs ≠ 0 := by have := hf.1; omega
          rw [Nat.log2_lt h0]
          refine Nat.lt_of_lt_of_le (m := 2 ^ 140) ?_ (Nat.pow_le_pow_right (by decide) (by decide))
          have h9 : (100000000000000000000000000000000000000000 : Nat) < 2 ^ 140 := by decide +kernel
          have h10 : n < 100000000000000000000000000000000000000000 := hf.2
          have h11 : 1 ≤ n := hf.1
          omega
        refine ⟨_, _, rfl, _, rfl, s1 _ (by rw [h3]; omega), _, rfl, hlog, s1 _ (by rw [len_app, h3]; exact Nat.le_trans (Nat.add_le_add (Nat.add_le_add h1 (Nat.le_refl 1)) h2) (by decide)), rfl, fin⟩
    · rintro acc mm ⟨rfl, rfl⟩
      rw [List.length_map, List.take_length]
      have hlen := words_len hL
      refine ⟨L.map Stp.word, .inr rfl, by omega, ?_⟩
      have hj := join_len "; " (L.map Stp.word)
      refine ⟨Nat.le_trans (Nat.le_trans hj (Nat.le_trans hlen (Nat.mul_le_mul_left 50 hl))) (by decide), ?_⟩
      cases hL0 : L with
      | nil =>
        subst hL0
        exact iteF q
      | cons s L' =>
        have hp : 0 < (Txt.join "; " (L.map Stp.word)).length := by
          rw [← cp_len]
          show 0 < (TL.tl (Txt.join "; " (L.map Stp.word))).length
          rw [TL.join_eq, TL.tl_join, hL0]
          have hk : 0 < (TL.tl s.word).length := by
            show 0 < (cp s.word).length
            unfold Stp.word
            rw [cp_app, cp_app]
            have : (cp (" " : Str)).length = 1 := by decide +kernel
            simp only [List.length_append]
            omega
          cases L' with
          | nil => simpa [TL.joinL] using hk
          | cons s2 L2 =>
            show 0 < (TL.joinL _ (TL.tl s.word :: TL.tl s2.word :: (L2.map Stp.word).map TL.tl)).length
            rw [TL.joinL, List.length_append, List.length_append]
            omega
        rw [← hL0, decide_eq_true hp]
        refine iteT ?_
        unfold wordL at q
        rw [hL0, if_neg (by simp), ← hL0] at q
        exact q
/-! ### new NAMEs -/
/-- q, a letter, q -/
def qs (c : Nat) : Str := "q" ++ sg c ++ "q"
def freshC : List Nat := (List.range 26).map fun i => 122 - i
theorem qs_cp (c : Nat) : cp (qs c) = [113, c, 113] := by unfold qs; rw [cp_app, cp_app, cp_sg]; rfl
theorem qs_nm {c : Nat} (h : c ∈ freshC) : Nm (qs c) := by
  obtain ⟨i, hi, rfl⟩ := List.mem_map.mp h
  have := List.mem_range.mp hi
  refine ⟨by rw [← cp_len, qs_cp]; exact (show 0 < 3 by decide), by rw [← cp_len, qs_cp]; exact (show 3 ≤ 30 by decide), fun d hd => ?_⟩
  rw [qs_cp] at hd
  simp only [List.mem_cons, List.not_mem_nil, or_false] at hd
  omega
theorem qs_inj {c d : Nat} (h : qs c = qs d) : c = d := by
  have := congrArg cp h
  rw [qs_cp, qs_cp] at this
  simpa using this
/-- the new NAMEs, none of ts -/
def freshL (ts : List Str) (n : Nat) : List Str := ((freshC.map qs).filter fun u => !decide (u ∈ ts)).take n
theorem fresh_mem {ts : List Str} {n : Nat} {u : Str} (h : u ∈ freshL ts n) : Nm u ∧ u ∉ ts := by
  have h := List.mem_of_mem_take h
  rw [List.mem_filter] at h
  obtain ⟨c, hc, rfl⟩ := List.mem_map.mp h.1
  refine ⟨qs_nm hc, ?_⟩
  simpa using h.2
theorem fresh_nd (ts : List Str) (n : Nat) : (freshL ts n).Nodup := by
  refine List.Nodup.sublist (List.take_sublist _ _) (List.Nodup.sublist List.filter_sublist ?_)
  rw [List.nodup_iff_pairwise_ne, List.pairwise_map]
  have nd : freshC.Nodup := by decide +kernel
  rw [List.nodup_iff_pairwise_ne] at nd
  exact nd.imp fun h e => h (qs_inj e)
theorem fresh_len (ts : List Str) (n : Nat) : (freshL ts n).length ≤ n := by unfold freshL; rw [List.length_take]; omega
def spFresh : DSp := fun ds m Q => ∃ (a : D) (ts : List Str) (n : Nat), ds = [a, .int (n : Int)] ∧ Sq a (ts.map D.str) ∧ Q (.lst ((freshL ts n).map D.str)) m
theorem inV_strs (x : Str) (ts : List Str) : inV (fv (.str x)) ((ts.map D.str).map fv) = decide (x ∈ ts) := by
  induction ts with
  | nil => rfl
  | cons t ts ih =>
    have e : inV (fv (.str x)) (((t :: ts).map D.str).map fv) = (eqV (.str t) (.str x) || inV (fv (.str x)) ((ts.map D.str).map fv)) := rfl
    rw [e, ih, eqV_str]
    by_cases h : t = x
    · subst h; simp
    · have h2 : ¬ x = t := fun z => h z.symm
      simp [h, h2]
theorem scFresh : FnScope ["_law_tags_here", "_law_many_so", "_law_found", "_law_sign", "_law_own"] ["_law_tags_here", "_law_many_so"] (defScope sFresh) := ⟨rfl, rfl, rfl, by decide +kernel, rfl, by decide +kernel, by decide +kernel⟩
theorem ok_fresh {f : Addr} {fd : FuncData} (F : Fun K "_law_fresh" "_law_fresh" sFresh f fd) (T : Blt mg) : FnOk P w K mg base CX0 1 f fd ["_law_tags_here", "_law_many_so"] (spD spFresh) := by
  refine fnD F scFresh ?_ fun cdv A outer s H E ds m Q' hr h => ?_
  · rintro ds m Q ⟨a, ts, n, rfl, _⟩
    rfl
  · obtain ⟨a, ts, n, rfl, ha, q⟩ := h
    have nd := scFresh.nd
    refine ⟨_, (dss_cons (ds_setLc (i := 2) (own := [("_law_sign", 3)]) rfl nd (di_strE de_str) (blkOk_by (N := ["_law_tags_here", "_law_many_so", "_law_found", "_law_sign", "_law_own"]) (sc := defScope sFresh) (by decide +kernel)) (fun _ _ _ _ _ => dg_name (i := 3) nd) (fun _ _ _ _ _ => dts_nil) (fun _ _ _ _ _ => (de_op do_add (de_op do_add de_str (dv 3)) de_str)))
 (dss_one (ds_ret (de_slice (de_lc (own := [("_law_own", 4)]) rfl nd (di_var 2 (dv 2)) (blkOk_by (N := ["_law_tags_here", "_law_many_so", "_law_found", "_law_sign", "_law_own"]) (sc := defScope sFresh) (by decide +kernel)) (fun _ _ _ _ _ => dg_name (i := 4) nd) (fun _ _ _ _ _ => dts_one (dt_cmp do_notin (dv 4) (dv 0))) (fun _ _ _ _ _ => (dv 4))) dp_none (dp_some (dv 1)))))), ?_⟩
    dsimp only [dSeq, dSet, dRet]
    have es : signsD "zyxwvutsrqponmlkjihgfedcba" = freshC.map fun c => D.str (sg c) := beqL_eq (by decide +kernel)
    refine dLc_pure (freshC.map fun c => D.str (sg c)) (fun _ => true) (fun d => match d with | .str z => .str ("q" ++ z ++ "q") | d => d) (fun R hR => ⟨_, rfl, by rw [es]; exact hR⟩) (by decide +kernel) (fun d hd mm R hR => hR) (fun d hd _ mm R hR => ?_) ?_
    · obtain ⟨c, hc, rfl⟩ := List.mem_map.mp hd
      exact ⟨_, rfl, (by show 1 + 1 ≤ sizeLine; decide), (by show 2 + 1 ≤ sizeLine; decide), hR⟩
    · have e1 : (((freshC.map fun c => D.str (sg c)).filter fun _ => true).map fun d => match d with | .str z => .str ("q" ++ z ++ "q") | d => d) = (freshC.map qs).map D.str := by
        rw [List.filter_eq_self.mpr (by simp), List.map_map, List.map_map]
        rfl
      rw [e1]
      dsimp only [dSlice]
      refine dLc_pure ((freshC.map qs).map D.str) (fun d => !inV (fv d) ((ts.map D.str).map fv)) (fun d => d) (fun R hR => ⟨_, rfl, hR⟩) (by decide +kernel) (fun d hd mm R hR => ?_) (fun d hd _ mm R hR => ⟨_, rfl, hR⟩) ?_
      · obtain ⟨x, hx, rfl⟩ := List.mem_map.mp hd
        exact ⟨_, rfl, _, rfl, ts.map D.str, ha.symm, rfl, strs_flat ts, _, rfl, hR⟩
      · refine ⟨_, rfl, _, rfl, ?_⟩
        have e2 : (((freshC.map qs).map D.str).filter fun d => !inV (fv d) ((ts.map D.str).map fv)).map (fun d => d) = ((freshC.map qs).filter fun u => !decide (u ∈ ts)).map D.str := by
          rw [List.map_id', List.filter_map]
          congr 1
          exact List.filter_congr fun x _ => congrArg Bool.not (inV_strs x ts)
        rw [e2]
        show Q' (.lst (cutD _ none (some (n : Int)))) _
        rw [cutD_nat, ← List.map_take]
        exact q
end
end TC
namespace TC
open PySem PySem.Spec PyProof.Rows L2 RZ
variable [Cl]
abbrev sHand : Stmt := top 48
abbrev sRight : Stmt := top 49
section
variable {P : Program} {w : World} {K : PySem.W.Frag} {mg : Str → Option Value} {base : Heap}
theorem hgLast : ∀ (w : W) (H : Hp) (v : V) (d : D) (vs : List V) (ds : List D), vs.length = 1 → Hd w H v d → Hds w H vs ds → Hds w H (apV [v] vs) (d :: ds) := fun w H v d vs ds _ h hs => .cons h hs
theorem rp1 : RuleP "touch a; cap 3" [.touch "a", .cap 3] := rp_of (by decide +kernel)
theorem rp2 : RuleP "cap 3; touch a" [.cap 3, .touch "a"] := rp_of (by decide +kernel)
theorem rp3 : RuleP "cap 3; touch a; touch b; cap 4" [.cap 3, .touch "a", .touch "b", .cap 4] := rp_of (by decide +kernel)
theorem rp4 : RuleP "touch ab; forget a; cap 2; touch b; touch ab" [.touch "ab", .forget "a", .cap 2, .touch "b", .touch "ab"] := rp_of (by decide +kernel)
theorem rp5 : RuleP "touch z; touch x; touch z" [.touch "z", .touch "x", .touch "z"] := rp_of (by decide +kernel)
def tagN (k : Nat) : Str := "k" ++ sg (97 + k / 26) ++ sg (97 + k % 26)
def lonN (k : Nat) : Str := sg (97 + k / 26) ++ sg (97 + k % 26)
def tagL : List Str := (List.range 59).map tagN
def lonL : List Str := (List.range 300).map lonN
theorem tag_e : (List.range 59).map (fun k => D.str (tagN k)) = tagL.map D.str := by rw [tagL, List.map_map]; rfl
theorem lon_e : (List.range 300).map (fun k => D.str (lonN k)) = lonL.map D.str := by rw [lonL, List.map_map]; rfl
def greatL : List Stp := tagL.map .touch ++ [.cap 100]
theorem great_t : D.tup ((tagL.map Stp.touch).map Stp.ob ++ [.obj 0 [.str "cap", .int 100]]) = rulT greatL := by unfold rulT greatL; rw [List.map_append]; rfl
theorem great_ok : ∀ s ∈ greatL, s.ok := oks_of (by decide +kernel)
def wideN (k : Nat) : Stp := .cap (10 ^ (40 : Int).toNat - (k : Int))
def wideL : List Stp := (List.range 60).map wideN
theorem wide_e : (List.range 60).map (fun k => (wideN k).ob) = wideL.map Stp.ob := by rw [wideL, List.map_map]; rfl
theorem wide_ok (k : Nat) (h : k < 60) : (wideN k).ok := by
  show (1 : Int) ≤ 10 ^ (40 : Int).toNat - (k : Int)
  have e : (10 : Int) ^ (40 : Int).toNat = 10000000000000000000000000000000000000000 := by decide +kernel
  rw [e]
  omega
theorem tag_ok : ∀ t ∈ tagL, (Stp.touch t).ok := by
  have h : tagL.all (fun t => (Stp.touch t).okb) = true := by decide +kernel
  intro t ht
  have h2 : (Stp.touch t).okb = true := List.all_eq_true.mp h t ht
  exact oks_of (L := [.touch t]) (by simp [h2]) _ (List.mem_singleton.mpr rfl)
def spHand : DSp := fun ds m Q => ds = [] ∧ Q (.bl true) m
theorem scHand : FnScope ["_law_rule", "_law_other", "_law_rows_so", "_law_got", "_law_goal", "_law_near", "_law_far", "_law_soft", "_law_signs", "_law_tags_here", "_law_long", "_law_great", "_law_wide_so", "_law_own", "_law_k"] [] (defScope sHand) := ⟨rfl, rfl, rfl, by decide +kernel, rfl, by decide +kernel, by decide +kernel⟩
local macro_rules | `(tactic| walk_at "tcps") => `(tactic| with_reducible (first | exact rp1 | exact rp2 | exact rp3 | exact rp4 | exact rp5))
local macro_rules | `(tactic| walk_at "tcgo") => `(tactic| repeat (first
  | ((fail_if_success (with_reducible show lcIn _ _ _ _ (nats _) _ _)); (fail_if_success (with_reducible show lcIn _ _ _ _ (List.map _ _) _ _)); refine lc_unroll ?_)
  | refine iteT ?_
  | refine iteF ?_
  | refine ⟨_, rfl, Or.inr ⟨_, (by walk_at "tcps"), ?_⟩⟩
  | refine ⟨_, rfl, (show Ez _ by assumption), ?_⟩
  | refine ⟨_, rfl, ?_⟩
  | refine ⟨_, _, _, _, rfl, .inl rfl, oks_of (by decide +kernel), sqT_of (by decide +kernel), (by decide +kernel), ?_⟩
  | refine ⟨_, _, _, _, rfl, .inl rfl, oks_of (by decide +kernel), sqL_of (by decide +kernel), (by decide +kernel), ?_⟩
  | refine ⟨_, _, _, _, rfl, .inr ⟨rfl, rfl, (by assumption)⟩, nofun, sqT_of (by decide +kernel), (by decide +kernel), ?_⟩
  | refine ⟨_, _, _, _, rfl, .inr ⟨rfl, rfl, (by assumption)⟩, nofun, sqL_of (by decide +kernel), (by decide +kernel), ?_⟩
  | refine ⟨_, _, rfl, rfl, ⟨_, _, _, _, rfl, .inl rfl, .inl rfl, (by decide +kernel), ⟨_, _, rfl⟩, ?_⟩⟩
  | refine ⟨_, _, rfl, (by decide +kernel), ?_⟩
  | refine ⟨_, _, rfl, ?_⟩
  | refine ⟨_, _, rfl, rfl, trivial, ?_⟩
  | refine ⟨_, _, rfl, rfl, ⟨by decide, by decide, by decide⟩, ?_⟩
  | refine ⟨_, _, rfl, rfl, (by show (0 : Int) < _; decide), ?_⟩
  | refine ⟨_, _, rfl, rfl, ⟨(by show (0 : Int) < _; decide), (by show _ < (2 : Int) ^ 30; decide)⟩, ?_⟩
  | refine And.intro (by assumption) ?_
  | refine Or.inl ⟨_, _, Or.inr rfl, by assumption, ?_⟩
  | refine And.intro rfl ?_
  | refine And.intro (Nat.le_of_ble_eq_true rfl) ?_
  | refine And.intro (by decide +kernel) ?_
  | refine Or.inl ⟨_, _, Or.inl rfl, rfl, ?_⟩
  | refine Or.inl ⟨_, _, Or.inr rfl, rfl, ?_⟩))
set_option maxHeartbeats 4000000 in
theorem ok_hand {f fs : Addr} {fd fds : FuncData} (F : Fun K "_law_by_hand_right" "_law_by_hand_right" sHand f fd) (T : Blt mg) (R : RowsF K mg) (S : StepC K mg) (RC : RuleC K mg) (As : At K mg "_law_same" sSame ["_law_got", "_law_goal"] fs fds) : FnOk P w K mg base CX0 7 f fd [] (spD spHand) := by
  refine fnD F scHand ?_ fun cdv A outer s H E ds m Q' hr h => ?_
  · rintro ds m Q ⟨rfl, _⟩
    rfl
  · obtain ⟨rfl, q⟩ := h
    have nd := scHand.nd
    obtain ⟨dv0, hv0, hb0⟩ := RC.init.bd0
    have hez : Ez K := RC.e0
    refine ⟨_, (dss_cons (ds_asg (de_tup (da_cons (de_smeth RC.rd RC.ofS (ok_ruleof RC S R T) (hr.mono (by decide)) RC.mgC RC.of.bd (da_cons de_str da_nil)) (da_cons (de_smeth RC.rd RC.ofS (ok_ruleof RC S R T) (hr.mono (by decide)) RC.mgC RC.of.bd (da_cons de_str da_nil)) da_nil))) (dg_tup2 (i := 0) (j := 1) rfl nd))
 (dss_cons (ds_set (i := 2) nd (de_lst (da_cons (de_tup (da_cons de_str (da_cons de_str (da_cons de_str da_nil)))) (da_cons (de_tup (da_cons de_str (da_cons de_str (da_cons de_str (da_cons de_str da_nil))))) (da_cons (de_tup da_nil) (da_cons (de_tup (da_cons de_str (da_cons de_str (da_cons de_str (da_cons de_str da_nil))))) (da_cons (de_tup (da_cons de_str (da_cons de_str (da_cons de_str (da_cons de_str da_nil))))) (da_cons (de_tup (da_cons de_str da_nil)) da_nil))))))))
 (dss_cons (ds_setLc (i := 3) (own := [("_law_own", 13)]) rfl nd (di_var 2 (dv 2)) (blkOk_by (N := ["_law_rule", "_law_other", "_law_rows_so", "_law_got", "_law_goal", "_law_near", "_law_far", "_law_soft", "_law_signs", "_law_tags_here", "_law_long", "_law_great", "_law_wide_so", "_law_own", "_law_k"]) (sc := defScope sHand) (by decide +kernel)) (fun _ _ _ _ _ => dg_name (i := 13) nd) (fun _ _ _ _ _ => dts_nil) (fun _ _ _ _ _ => (de_lst (da_cons (de_callO 1 (dv 0) RC.callO (ok_rulecall RC S R T) (hr.mono (by decide)) RC.call.bd (da_cons (dv 13) da_nil)) (da_cons (de_callO 1 (dv 1) RC.callO (ok_rulecall RC S R T) (hr.mono (by decide)) RC.call.bd (da_cons (dv 13) da_nil)) da_nil)))))
 (dss_cons (ds_set (i := 4) nd (de_lst (da_cons (de_lst (da_cons (de_tup (da_cons de_str (da_cons de_str (da_cons de_str da_nil)))) (da_cons (de_tup (da_cons de_str (da_cons de_str (da_cons de_str (da_cons de_str da_nil))))) da_nil))) (da_cons (de_op do_mulA (de_lst (da_cons (de_tup (da_cons de_str (da_cons de_str (da_cons de_str da_nil)))) da_nil)) de_int) (da_cons (de_op do_mulA (de_lst (da_cons (de_tup (da_cons de_str da_nil)) da_nil)) de_int) (da_cons (de_op do_mulA (de_lst (da_cons (de_tup (da_cons de_str (da_cons de_str (da_cons de_str da_nil)))) da_nil)) de_int) da_nil))))))
 (dss_cons (ds_set (i := 4) nd (de_op do_add (dv 4) (de_lst (da_cons (de_lst (da_cons (de_tup (da_cons de_str (da_cons de_str (da_cons de_str da_nil)))) (da_cons (de_tup (da_cons de_str (da_cons de_str (da_cons de_str (da_cons de_str da_nil))))) da_nil))) (da_cons (de_op do_mulA (de_lst (da_cons (de_tup (da_cons de_str da_nil)) da_nil)) de_int) da_nil)))))
 (dss_cons (ds_set (i := 5) nd (de_smeth RC.rd RC.ofS (ok_ruleof RC S R T) (hr.mono (by decide)) RC.mgC RC.of.bd (da_cons de_str da_nil)))
 (dss_cons (ds_set (i := 2) nd (de_lst (da_cons (de_tup (da_cons de_str (da_cons de_str (da_cons de_str (da_cons de_str da_nil))))) (da_cons (de_tup (da_cons de_str (da_cons de_str (da_cons de_str da_nil)))) (da_cons (de_tup (da_cons de_str (da_cons de_str (da_cons de_str (da_cons de_str da_nil))))) (da_cons (de_tup (da_cons de_str (da_cons de_str da_nil))) (da_cons (de_tup (da_cons de_str (da_cons de_str da_nil))) da_nil)))))))
 (dss_cons (ds_set (i := 3) nd (de_op do_add (dv 3) (de_lc (own := [("_law_own", 13)]) rfl nd (di_var 2 (dv 2)) (blkOk_by (N := ["_law_rule", "_law_other", "_law_rows_so", "_law_got", "_law_goal", "_law_near", "_law_far", "_law_soft", "_law_signs", "_law_tags_here", "_law_long", "_law_great", "_law_wide_so", "_law_own", "_law_k"]) (sc := defScope sHand) (by decide +kernel)) (fun _ _ _ _ _ => dg_name (i := 13) nd) (fun _ _ _ _ _ => dts_nil) (fun _ _ _ _ _ => (de_callO 1 (dv 5) RC.callO (ok_rulecall RC S R T) (hr.mono (by decide)) RC.call.bd (da_cons (dv 13) da_nil))))))
 (dss_cons (ds_set (i := 4) nd (de_op do_add (dv 4) (de_lst (da_cons (de_tup (da_cons de_str (da_cons de_str (da_cons de_str da_nil)))) (da_cons (de_tup (da_cons de_str (da_cons de_str (da_cons de_str (da_cons de_str da_nil))))) (da_cons (de_tup (da_cons de_str (da_cons de_str (da_cons de_str (da_cons de_str da_nil))))) (da_cons (de_tup (da_cons de_str (da_cons de_str (da_cons de_str da_nil)))) (da_cons (de_tup (da_cons de_str (da_cons de_str (da_cons de_str da_nil)))) da_nil))))))))
 (dss_cons (ds_set (i := 6) nd (de_smeth RC.rd RC.ofS (ok_ruleof RC S R T) (hr.mono (by decide)) RC.mgC RC.of.bd (da_cons de_str da_nil)))
 (dss_cons (ds_set (i := 3) nd (de_op do_add (dv 3) (de_lc (own := [("_law_own", 13)]) rfl nd (di_tup (de_tup (da_cons (de_tup da_nil) (da_cons (de_tup (da_cons de_str (da_cons de_str (da_cons de_str da_nil)))) (da_cons (de_tup (da_cons de_str (da_cons de_str da_nil))) (da_cons (de_tup (da_cons de_str (da_cons de_str (da_cons de_str da_nil)))) da_nil))))) (pi_tup pe_self)) (blkOk_by (N := ["_law_rule", "_law_other", "_law_rows_so", "_law_got", "_law_goal", "_law_near", "_law_far", "_law_soft", "_law_signs", "_law_tags_here", "_law_long", "_law_great", "_law_wide_so", "_law_own", "_law_k"]) (sc := defScope sHand) (by decide +kernel)) (fun _ _ _ _ _ => dg_name (i := 13) nd) (fun _ _ _ _ _ => dts_nil) (fun _ _ _ _ _ => (de_callO 1 (dv 6) RC.callO (ok_rulecall RC S R T) (hr.mono (by decide)) RC.call.bd (da_cons (dv 13) da_nil))))))
 (dss_cons (ds_set (i := 4) nd (de_op do_add (dv 4) (de_lst (da_cons (de_tup (da_cons de_str (da_cons de_str da_nil))) (da_cons (de_tup (da_cons de_str (da_cons de_str (da_cons de_str da_nil)))) (da_cons (de_tup (da_cons de_str (da_cons de_str (da_cons de_str da_nil)))) (da_cons (de_tup (da_cons de_str (da_cons de_str da_nil))) da_nil)))))))
 (dss_cons (ds_set (i := 3) nd (de_op do_add (dv 3) (de_lst (da_cons (de_callO 1 (de_op (do_own (op := .RShift) 1 RC.shO (ok_ruleshift RC S R T) (hr.mono (by decide)) RC.sh.bd) (dv 0) (dv 1)) RC.callO (ok_rulecall RC S R T) (hr.mono (by decide)) RC.call.bd (da_cons (de_tup (da_cons de_str (da_cons de_str (da_cons de_str da_nil)))) da_nil)) (da_cons (de_callO 1 (de_op (do_own (op := .RShift) 1 RC.shO (ok_ruleshift RC S R T) (hr.mono (by decide)) RC.sh.bd) (dv 1) (dv 0)) RC.callO (ok_rulecall RC S R T) (hr.mono (by decide)) RC.call.bd (da_cons (de_tup (da_cons de_str (da_cons de_str (da_cons de_str da_nil)))) da_nil)) (da_cons (de_callO 1 (de_make0 1 RC.mkC (ok_ruleinit RC T) (hr.mono (by decide)) RC.mgC hb0 hv0) RC.callO (ok_rulecall RC S R T) (hr.mono (by decide)) RC.call.bd (da_cons (de_lst (da_cons de_str (da_cons de_str da_nil))) da_nil)) (da_cons (de_callO 1 (de_make0 1 RC.mkC (ok_ruleinit RC T) (hr.mono (by decide)) RC.mgC hb0 hv0) RC.callO (ok_rulecall RC S R T) (hr.mono (by decide)) RC.call.bd (da_cons (de_tup da_nil) da_nil)) da_nil)))))))
 (dss_cons (ds_set (i := 4) nd (de_op do_add (dv 4) (de_lst (da_cons (de_tup (da_cons de_str (da_cons de_str (da_cons de_str da_nil)))) (da_cons (de_tup (da_cons de_str (da_cons de_str (da_cons de_str da_nil)))) (da_cons (de_tup (da_cons de_str (da_cons de_str da_nil))) (da_cons (de_tup da_nil) da_nil)))))))
 (dss_cons (ds_set (i := 7) nd (de_lst (da_cons de_str (da_cons de_str (da_cons de_str (da_cons de_str da_nil))))))
 (dss_cons (ds_set (i := 3) nd (de_op do_add (dv 3) (de_lst (da_cons (de_callO 1 (dv 0) RC.callO (ok_rulecall RC S R T) (hr.mono (by decide)) RC.call.bd (da_cons (dv 7) da_nil)) (da_cons (de_callOK 1 (dv 0) RC.callO (ok_rulecall RC S R T) (hr.mono (by decide)) (kb_last RC.call.fn (fun _ _ _ _ _ _ _ _ => rfl)) hgLast (dk_cons (dv 7) dk_nil)) (da_cons (dv 7) (da_cons (de_callO 1 (de_smeth RC.rd RC.ofS (ok_ruleof RC S R T) (hr.mono (by decide)) RC.mgC RC.of.bd (da_cons de_str da_nil)) RC.callO (ok_rulecall RC S R T) (hr.mono (by decide)) RC.call.bd (da_cons (dv 7) da_nil)) da_nil)))))))
 (dss_cons (ds_set (i := 4) nd (de_op do_add (dv 4) (de_lst (da_cons (de_tup (da_cons de_str (da_cons de_str (da_cons de_str da_nil)))) (da_cons (de_tup (da_cons de_str (da_cons de_str (da_cons de_str da_nil)))) (da_cons (de_lst (da_cons de_str (da_cons de_str (da_cons de_str (da_cons de_str da_nil))))) (da_cons (de_tup (da_cons de_str (da_cons de_str (da_cons de_str (da_cons de_str da_nil))))) da_nil)))))))
 (dss_cons (ds_set (i := 8) nd de_str)
 (dss_cons (ds_setLc (i := 9) (own := [("_law_k", 14)]) rfl nd (di_range T.range de_int) (blkOk_by (N := ["_law_rule", "_law_other", "_law_rows_so", "_law_got", "_law_goal", "_law_near", "_law_far", "_law_soft", "_law_signs", "_law_tags_here", "_law_long", "_law_great", "_law_wide_so", "_law_own", "_law_k"]) (sc := defScope sHand) (by decide +kernel)) (fun _ _ _ _ _ => dg_name (i := 14) nd) (fun _ _ _ _ _ => dts_nil) (fun _ _ _ _ _ => (de_op do_add (de_op do_add de_str (de_ix (dv 8) (de_op do_fdiv (dv 14) de_int))) (de_ix (dv 8) (de_op do_mod (dv 14) de_int)))))
 (dss_cons (ds_set (i := 10) nd (de_callTy dc_tupleA T.tuple (da_cons (de_lc (own := [("_law_k", 14)]) rfl nd (di_range T.range de_int) (blkOk_by (N := ["_law_rule", "_law_other", "_law_rows_so", "_law_got", "_law_goal", "_law_near", "_law_far", "_law_soft", "_law_signs", "_law_tags_here", "_law_long", "_law_great", "_law_wide_so", "_law_own", "_law_k"]) (sc := defScope sHand) (by decide +kernel)) (fun _ _ _ _ _ => dg_name (i := 14) nd) (fun _ _ _ _ _ => dts_nil) (fun _ _ _ _ _ => (de_op do_add (de_ix (dv 8) (de_op do_fdiv (dv 14) de_int)) (de_ix (dv 8) (de_op do_mod (dv 14) de_int))))) da_nil)))
 (dss_cons (ds_set (i := 11) nd (de_make 1 RC.mkC (ok_ruleinit RC T) (hr.mono (by decide)) RC.mgC RC.init.bd (da_cons (de_op do_add (de_lc (own := [("_law_own", 13)]) rfl nd (di_var 9 (dv 9)) (blkOk_by (N := ["_law_rule", "_law_other", "_law_rows_so", "_law_got", "_law_goal", "_law_near", "_law_far", "_law_soft", "_law_signs", "_law_tags_here", "_law_long", "_law_great", "_law_wide_so", "_law_own", "_law_k"]) (sc := defScope sHand) (by decide +kernel)) (fun _ _ _ _ _ => dg_name (i := 13) nd) (fun _ _ _ _ _ => dts_nil) (fun _ _ _ _ _ => (de_make 0 S.mkC (ok_stepinit S R T) (hr.mono (by decide)) S.mgC S.init.bd (da_cons de_str (da_cons (dv 13) da_nil))))) (de_lst (da_cons (de_make 0 S.mkC (ok_stepinit S R T) (hr.mono (by decide)) S.mgC S.init.bd (da_cons de_str (da_cons de_int da_nil))) da_nil))) da_nil)))
 (dss_cons (ds_set (i := 12) nd (de_make 1 RC.mkC (ok_ruleinit RC T) (hr.mono (by decide)) RC.mgC RC.init.bd (da_cons (de_lc (own := [("_law_k", 14)]) rfl nd (di_range T.range de_int) (blkOk_by (N := ["_law_rule", "_law_other", "_law_rows_so", "_law_got", "_law_goal", "_law_near", "_law_far", "_law_soft", "_law_signs", "_law_tags_here", "_law_long", "_law_great", "_law_wide_so", "_law_own", "_law_k"]) (sc := defScope sHand) (by decide +kernel)) (fun _ _ _ _ _ => dg_name (i := 14) nd) (fun _ _ _ _ _ => dts_nil) (fun _ _ _ _ _ => (de_make 0 S.mkC (ok_stepinit S R T) (hr.mono (by decide)) S.mgC S.init.bd (da_cons de_str (da_cons (de_op do_sub (de_op do_pow de_int de_int) (dv 14)) da_nil))))) da_nil)))
 (dss_one (ds_ret (de_call (ok_same T As 3) (hr.mono (by decide)) As.mg As.fn.kp As.bd (da_cons (de_op do_add (dv 3) (de_lst (da_cons (de_callO 1 (dv 11) RC.callO (ok_rulecall RC S R T) (hr.mono (by decide)) RC.call.bd (da_cons (dv 10) da_nil)) (da_cons (de_callO 1 (dv 12) RC.callO (ok_rulecall RC S R T) (hr.mono (by decide)) RC.call.bd (da_cons (dv 10) da_nil)) da_nil)))) (da_cons (de_op do_add (dv 4) (de_lst (da_cons (de_op do_add (de_callTy dc_tupleA T.tuple (da_cons (de_rev (dv 9)) da_nil)) (de_slice (dv 10) dp_none (dp_some de_int))) (da_cons (dv 10) da_nil)))) da_nil))))))))))))))))))))))))))), ?_⟩
    walk_at "tcgo"
    refine lc_in 59 (fun k => .str (tagN k)) (fun k hk mm R hR => ?_) ?_
    · have e1 : ((k : Int) / 26).toNat = k / 26 := by omega
      have e2 : ((k : Int) % 26).toNat = k % 26 := by omega
      refine ⟨_, rfl, _, rfl, _, _, rfl, rfl, ⟨(by show (0 : Int) < _; decide), (by show _ < (2 : Int) ^ 30; decide)⟩, _, rfl, .inr ⟨z26, _, rfl, z26_len, z26_at (by omega) (by omega), (by show 1 + 1 ≤ sizeLine; decide), ?_⟩⟩
      refine ⟨_, rfl, _, rfl, _, _, rfl, rfl, (by show (0 : Int) < _; decide), _, rfl, .inr ⟨z26, _, rfl, z26_len, z26_at (by omega) (by omega), ?_⟩⟩
      rw [e1, e2]
      exact ⟨(by show 2 + 1 ≤ sizeLine; decide), hR⟩
    rw [tag_e]
    walk_at "tcgo"
    refine lc_in 300 (fun k => .str (lonN k)) (fun k hk mm R hR => ?_) ?_
    · have e1 : ((k : Int) / 26).toNat = k / 26 := by omega
      have e2 : ((k : Int) % 26).toNat = k % 26 := by omega
      refine ⟨_, rfl, _, rfl, _, _, rfl, rfl, ⟨(by show (0 : Int) < _; decide), (by show _ < (2 : Int) ^ 30; decide)⟩, _, rfl, .inr ⟨z26, _, rfl, z26_len, z26_at (by omega) (by omega), ?_⟩⟩
      refine ⟨_, rfl, _, rfl, _, _, rfl, rfl, (by show (0 : Int) < _; decide), _, rfl, .inr ⟨z26, _, rfl, z26_len, z26_at (by omega) (by omega), ?_⟩⟩
      rw [e1, e2]
      exact ⟨(by show 1 + 1 ≤ sizeLine; decide), hR⟩
    rw [lon_e]
    walk_at "tcgo"
    refine lc_map (fun d => .obj 0 [.str "touch", d]) (fun d hd mm R hR => ?_) ?_
    · obtain ⟨t, ht, rfl⟩ := List.mem_map.mp hd
      exact ⟨_, rfl, _, _, rfl, Stp.ok_b (tag_ok t ht), hR⟩
    have eg : (tagL.map D.str).map (fun d => D.obj 0 [.str "touch", d]) = (tagL.map Stp.touch).map Stp.ob := by rw [List.map_map, List.map_map]; rfl
    rw [eg]
    walk_at "tcgo"
    refine lc_in 60 (fun k => (wideN k).ob) (fun k hk mm R hR => ?_) ?_
    · refine ⟨_, _, rfl, rfl, ⟨by decide, by decide, by decide⟩, _, rfl, _, _, rfl, rfl, trivial, _, _, rfl, Stp.ok_b (wide_ok k hk), hR⟩
    rw [wide_e]
    walk_at "tcgo"
    dsimp only [dNil]
    refine ⟨_, _, greatL, lonL, rfl, .inl great_t, great_ok, .inl rfl, by decide +kernel, ?_⟩
    walk_at "tcgo"
    first
      | exact q
      | (refine same_intro ?_ ?_ ?_ q
         · decide +kernel
         · decide +kernel
         · decide +kernel)
end
end TC
namespace TC
open PySem PySem.Spec PyProof.Rows L2 RZ
variable [Cl]
section
variable {P : Program} {w : World} {K : PySem.W.Frag} {mg : Str → Option Value} {base : Heap}
theorem cutD_from {α : Type} (l : List α) (j : Nat) (h : j ≤ l.length) : cutD l (some (j : Int)) none = l.drop j := by
  unfold cutD
  rw [HT.sIx_none, HT.sIx_nat, Nat.min_eq_left h, List.take_of_length_le (by rw [List.length_drop]; omega)]
theorem ruleO_word {L : List Stp} (hL : ∀ s ∈ L, s.fine) (hl : L.length ≤ 1000) (h0 : Ez K) {m : Nat} {Q : D → Nat → Prop} (q : ∀ t, RT K t L → Q (.obj 1 [t]) m) : spRuleO K [.str (wordL L)] m Q := by
  refine ⟨_, rfl, ?_⟩
  cases e : L with
  | nil => exact .inl ⟨rfl, h0, q _ (by rw [e]; exact .inr ⟨rfl, rfl, h0⟩)⟩
  | cons s L' =>
    have hne : L ≠ [] := by rw [e]; simp
    have hw : wordL L = Txt.join "; " (L.map Stp.word) := if_neg (by rw [e]; simp)
    have hlen := Nat.le_trans (join_len "; " (L.map Stp.word)) (words_len hL)
    have hs := split_word hL hne
    rw [← e]
    refine .inr ⟨L, ⟨?_, ?_, hl, ?_⟩, q _ (.inl rfl)⟩
    · intro z
      rw [hw] at z
      rw [z] at hs
      have h1 : Txt.split "-" "; " = [("-" : Str)] := by decide +kernel
      rw [h1, e] at hs
      have h2 : ("-" : Str) = s.word := by simpa using (List.cons.inj hs).1
      have h3 := word_part (hL s (by rw [e]; exact List.mem_cons_self ..))
      rw [← h2] at h3
      have h4 : (Txt.partition "-" " ").1 = s.kind := by rw [h3]
      have h5 : (Txt.partition "-" " ").1 = ("-" : Str) := by decide +kernel
      rw [h5] at h4
      cases s with
      | touch t => exact absurd h4 (show ¬ ("-" : Str) = "touch" by decide +kernel)
      | forget t => exact absurd h4 (show ¬ ("-" : Str) = "forget" by decide +kernel)
      | cap n => exact absurd h4 (show ¬ ("-" : Str) = "cap" by decide +kernel)
    · rw [hw]
      exact Nat.le_trans (Nat.add_le_add_right (Nat.le_trans hlen (Nat.mul_le_mul_left 50 hl)) 2) (by decide)
    · rw [hw, hs]
      exact parts_of hL
abbrev spRight : DSp := spR 1000
theorem scRight : FnScope ["_law_urn", "_law_turn", "_law_tags_here", "_law_pool", "_law_line_so", "_law_k", "_law_host_here", "_law_kin", "_law_one", "_law_two", "_law_lap", "_law_row_so", "_law_soft", "_law_goal", "_law_got"] ["_law_urn"] (defScope sRight) := ⟨rfl, rfl, rfl, by decide +kernel, rfl, by decide +kernel, by decide +kernel⟩
theorem ok_right {f fT fO fM fTg f5 f6 f7 f8 f9 fa fs : Addr} {fd fdT fdO fdM fdTg fd5 fd6 fd7 fd8 fd9 fda fds : FuncData} (F : Fun K "_law_right" "_law_right" sRight f fd) (T : Blt mg) (R : RowsF K mg) (S : StepC K mg) (RC : RuleC K mg) (A1 : At K mg "_law_take" sTake ["_law_urn", "_law_low_so"] fT fdT) (A2 : At K mg "_law_of" sOf ["_law_urn", "_law_some_so"] fO fdO)
    (A3 : At K mg "_law_mixed" sMixed ["_law_urn", "_law_pool"] fM fdM) (A4 : At K mg "_law_tags" sTags ["_law_urn", "_law_many_so"] fTg fdTg) (A5 : At K mg "_law_row" sRow ["_law_urn", "_law_pool", "_law_most"] f5 fd5) (A6 : At K mg "_law_line" sLine ["_law_urn", "_law_tags_here", "_law_most", "_law_high"] f6 fd6) (A7 : At K mg "_law_done" sDone ["_law_row_so", "_law_line_so"] f7 fd7)
    (A8 : At K mg "_law_host" sHost ["_law_line_so"] f8 fd8) (A9 : At K mg "_law_fresh" sFresh ["_law_tags_here", "_law_many_so"] f9 fd9) (Aa : At K mg "_law_word" sWord ["_law_line_so"] fa fda) (As : At K mg "_law_same" sSame ["_law_got", "_law_goal"] fs fds) : FnOk P w K mg base CX0 7 f fd ["_law_urn"] (spD spRight) := by
  refine fnD F scRight ?_ fun cdv A outer s H E ds m Q' hr h => ?_
  · rintro ds m Q ⟨rfl, _⟩
    rfl
  · obtain ⟨rfl, hm, q⟩ := h
    have nd := scRight.nd
    refine ⟨_, (dss_cons (ds_for PassesOwn.never rfl (di_range T.range de_int) (dg_name (i := 1) nd)
 (dss_cons (ds_set (i := 2) nd (de_call (ok_tags A4.fn T A1 A2 A3) (hr.mono (by decide)) A4.mg A4.fn.kp A4.bd (da_cons (dv 0) (da_cons de_int da_nil))))
 (dss_cons (ds_set (i := 3) nd (de_op do_add (dv 2) (de_call (ok_fresh A9.fn T) (hr.mono (by decide)) A9.mg A9.fn.kp A9.bd (da_cons (dv 2) (da_cons de_int da_nil)))))
 (dss_cons (ds_set (i := 4) nd (de_call (ok_line A6.fn T A1 A2) (hr.mono (by decide)) A6.mg A6.fn.kp A6.bd (da_cons (dv 0) (da_cons (dv 2) (da_cons de_int (da_cons (de_call (ok_of A2.fn T A1) (hr.mono (by decide)) A2.mg A2.fn.kp A2.bd (da_cons (dv 0) (da_cons (de_lst (da_cons de_int (da_cons de_int (da_cons de_int (da_cons (de_op do_pow de_int de_int) da_nil))))) da_nil))) da_nil))))))
 (dss_cons (ds_set (i := 5) nd (de_call (ok_take A1.fn T) (hr.mono (by decide)) A1.mg A1.fn.kp A1.bd (da_cons (dv 0) (da_cons (de_op do_add (de_callB dc_lenA T.len (da_cons (dv 4) da_nil)) de_int) da_nil))))
 (dss_cons (ds_par (i := 6) (j := 7) rfl nd (da_cons (de_call (ok_host A8.fn RC S R T) (hr.mono (by decide)) A8.mg A8.fn.kp A8.bd (da_cons (dv 4) da_nil)) (da_cons (de_smeth RC.rd RC.ofS (ok_ruleof RC S R T) (hr.mono (by decide)) RC.mgC RC.of.bd (da_cons (de_call (ok_word Aa.fn T) (hr.mono (by decide)) Aa.mg Aa.fn.kp Aa.bd (da_cons (dv 4) da_nil)) da_nil)) da_nil)))
 (dss_cons (ds_par (i := 8) (j := 9) rfl nd (da_cons (de_call (ok_host A8.fn RC S R T) (hr.mono (by decide)) A8.mg A8.fn.kp A8.bd (da_cons (de_slice (dv 4) dp_none (dp_some (dv 5))) da_nil)) (da_cons (de_call (ok_host A8.fn RC S R T) (hr.mono (by decide)) A8.mg A8.fn.kp A8.bd (da_cons (de_slice (dv 4) (dp_some (dv 5)) dp_none) da_nil)) da_nil)))
 (dss_one (ds_for PassesOwn.never rfl (di_range T.range de_int) (dg_name (i := 10) nd)
 (dss_cons (ds_set (i := 11) nd (de_call (ok_row A5.fn T A1 A3) (hr.mono (by decide)) A5.mg A5.fn.kp A5.bd (da_cons (dv 0) (da_cons (dv 3) (da_cons de_int da_nil)))))
 (dss_cons (ds_par (i := 12) (j := 13) rfl nd (da_cons (de_callTy dc_listA T.list (da_cons (dv 11) da_nil)) (da_cons (de_call (ok_done A7.fn T) (hr.mono (by decide)) A7.mg A7.fn.kp A7.bd (da_cons (dv 11) (da_cons (dv 4) da_nil))) da_nil)))
 (dss_cons (ds_set (i := 14) nd (de_lst (da_cons (de_callO 1 (dv 6) RC.callO (ok_rulecall RC S R T) (hr.mono (by decide)) RC.call.bd (da_cons (dv 11) da_nil)) (da_cons (de_callO 1 (dv 7) RC.callO (ok_rulecall RC S R T) (hr.mono (by decide)) RC.call.bd (da_cons (dv 12) da_nil)) (da_cons (de_callO 1 (de_op (do_own (op := .RShift) 1 RC.shO (ok_ruleshift RC S R T) (hr.mono (by decide)) RC.sh.bd) (dv 8) (dv 9)) RC.callO (ok_rulecall RC S R T) (hr.mono (by decide)) RC.call.bd (da_cons (dv 11) da_nil)) (da_cons (de_callO 1 (dv 9) RC.callO (ok_rulecall RC S R T) (hr.mono (by decide)) RC.call.bd (da_cons (de_callO 1 (dv 8) RC.callO (ok_rulecall RC S R T) (hr.mono (by decide)) RC.call.bd (da_cons (dv 11) da_nil)) da_nil)) (da_cons (de_callO 1 (dv 6) RC.callO (ok_rulecall RC S R T) (hr.mono (by decide)) RC.call.bd (da_cons (dv 12) da_nil)) (da_cons (dv 12) da_nil))))))))
 (dss_one (ds_if (dt_not (dt_val (de_call (ok_same T As 3) (hr.mono (by decide)) As.mg As.fn.kp As.bd (da_cons (dv 14) (da_cons (de_op do_add (de_op do_mulA (de_lst (da_cons (dv 13) da_nil)) de_int) (de_lst (da_cons (de_callTy dc_listA T.list (da_cons (dv 11) da_nil)) da_nil))) da_nil)))))
 (dss_one (ds_ret de_bl))
 dss_nil))))))))))))))
 (dss_one (ds_ret de_bl))), ?_⟩
    refine ⟨10, rfl, by decide, ?_⟩
    refine ⟨fun i env mm => ∃ e1 e2 e3 e4 e5 e6 e7 e8 e9 e10 e11 e12 e13 e14 : Option D, env = [some .urn, e1, e2, e3, e4, e5, e6, e7, e8, e9, e10, e11, e12, e13, e14] ∧ 1000 ≤ mm + 90 * i, ⟨_, _, _, _, _, _, _, _, _, _, _, _, _, _, rfl, hm⟩, ?_, fun env mm _ => q mm⟩
    rintro i d env mm hd ⟨e1, e2, e3, e4, e5, e6, e7, e8, e9, e10, e11, e12, e13, e14, rfl, hmm⟩
    have hi : i < 10 := (List.getElem?_eq_some_iff.mp hd).1
    obtain rfl : d = .int (i : Int) := by rw [nats_get hi] at hd; exact (Option.some.inj hd).symm
    have hsz : ∀ n : Nat, n ≤ 900 → n ≤ sizeLine := fun n h => Nat.le_of_lt (small1000 (by omega))
    refine ⟨_, rfl, 4, mm - 16, rfl, by decide, by omega, fun ts m1 h1 hN => ?_⟩
    have htl := hN.len
    have hfl := fresh_len ts 6
    refine ⟨_, rfl, _, rfl, _, ts, 6, rfl, .inr rfl, hsz _ (by rw [List.length_map, List.length_map]; omega), ?_⟩
    rw [← List.map_append]
    have hpl : (ts ++ freshL ts 6).length ≤ 10 := by rw [List.length_append]; omega
    generalize hpool : ts ++ freshL ts 6 = pool at hpl ⊢
    refine ⟨_, rfl, _, rfl, _, rfl, _, _, rfl, rfl, ⟨by decide, by decide, by decide⟩, (by show 4 ≤ sizeLine; decide), _, _, m1 - 1, rfl, .inr rfl, by decide, by decide, by omega, fun hd hhd => ?_⟩
    obtain ⟨hh, rfl, hh0, hh1⟩ : ∃ hh : Int, hd = .int hh ∧ 0 < hh ∧ hh < 100000000000000000000000000000000000000000 := by
      simp only [List.mem_cons, List.not_mem_nil, or_false] at hhd
      rcases hhd with rfl | rfl | rfl | rfl
      · exact ⟨5, rfl, by decide, by decide⟩
      · exact ⟨8, rfl, by decide, by decide⟩
      · exact ⟨8, rfl, by decide, by decide⟩
      · exact ⟨_, rfl, by decide, by decide⟩
    refine ⟨ts, 12, hh, m1 - 26, rfl, by omega, by omega, by decide, hh0, hh1, by omega, fun L m2 hL1 hL2 h2 => ?_⟩
    have hfine : ∀ s ∈ L, s.fine := fun s hs => of_fine hN.nm hh1 (hL2 s hs)
    have hok : ∀ s ∈ L, s.ok := fun s hs => (hfine s hs).ok
    refine ⟨_, rfl, _, rfl, _, m2 - 1, rfl, by rw [List.length_map]; omega, by rw [List.length_map]; omega, by omega, fun v v0 v1 => ?_⟩
    rw [List.length_map] at v1
    obtain ⟨k, rfl⟩ : ∃ k : Nat, v = (k : Int) := ⟨v.toNat, by omega⟩
    have hk : k ≤ L.length := by omega
    have hokT : ∀ s ∈ L.take k, s.ok := fun s hs => hok s (List.mem_of_mem_take hs)
    have hokD : ∀ s ∈ L.drop k, s.ok := fun s hs => hok s (List.mem_of_mem_drop hs)
    have hlT : (L.take k).length ≤ 12 := by rw [List.length_take]; omega
    have hlD : (L.drop k).length ≤ 12 := by rw [List.length_drop]; omega
    refine ⟨_, rfl, _, L, rfl, .inl rfl, hok, by omega, ?_⟩
    refine ⟨_, rfl, _, L, rfl, .inl rfl, hfine, by omega, ?_⟩
    dsimp only [dNil]
    refine ruleO_word hfine (by omega) RC.e0 fun tk htk => ?_
    refine ⟨_, _, rfl, ?_⟩
    refine ⟨_, rfl, _, rfl, _, rfl, _, L.take k, rfl, .inl (by rw [cutD_nat, List.map_take]), hokT, by omega, ?_⟩
    refine ⟨_, rfl, _, rfl, _, rfl, _, L.drop k, rfl, .inl (by rw [cutD_from _ _ (by rw [List.length_map]; exact hk), List.map_drop]), hokD, by omega, ?_⟩
    refine ⟨_, _, rfl, ?_⟩
    refine ⟨3, rfl, by decide, ?_⟩
    refine ⟨fun j env mm => ∃ f10 f11 f12 f13 f14 : Option D, env = [some .urn, some (.int (i : Nat)), some (.lst (ts.map D.str)), some (.lst (pool.map D.str)), some (.tup (L.map Stp.pr)), some (.int (k : Int)), some (rulD L), some (.obj 1 [tk]), some (rulD (L.take k)), some (rulD (L.drop k)), f10, f11, f12, f13, f14] ∧ m2 - 1 ≤ mm + 11 * j, ⟨_, _, _, _, _, rfl, by omega⟩, ?_, ?_⟩
    · rintro j d env m3 hd ⟨f10, f11, f12, f13, f14, rfl, h3⟩
      have hj : j < 3 := (List.getElem?_eq_some_iff.mp hd).1
      refine ⟨_, rfl, _, rfl, pool, 10, m3 - 1 - pool.length, rfl, by omega, by decide, by decide, by omega, fun r hr1 hr2 hr3 hr4 => ?_⟩
      refine ⟨_, rfl, _, rfl, _, rfl, _, _, r, L, rfl, .inl rfl, .inl rfl, by omega, fun n hn => ?_, _, _, rfl, ?_⟩
      · have h : (1 : Int) ≤ n := hok _ hn
        omega
      refine ⟨_, rfl, _, rfl, _, rfl, _, _, L, r, rfl, .inl rfl, hok, .inl rfl, by omega, ?_⟩
      refine ⟨_, rfl, _, rfl, _, rfl, _, _, L, r, rfl, htk, hok, .inr rfl, by omega, ?_⟩
      refine ⟨_, rfl, _, rfl, _, _, rfl, rfl, _, _, L.take k, L.drop k, rfl, .inl rfl, .inl rfl, by omega, ⟨_, _, rfl⟩, ?_⟩
      rw [List.take_append_drop]
      refine ⟨_, rfl, _, rfl, _, _, L, r, rfl, .inl rfl, hok, .inl rfl, by omega, ?_⟩
      have hg1 := goes_len (L.take k) r
      refine ⟨_, rfl, _, rfl, _, rfl, _, rfl, _, rfl, _, _, L.take k, r, rfl, .inl rfl, hokT, .inl rfl, by omega, ?_⟩
      refine ⟨_, _, L.drop k, goes (L.take k) r, rfl, .inl rfl, hokD, .inl rfl, by omega, ?_⟩
      rw [← goes_app, List.take_append_drop]
      refine ⟨_, rfl, _, rfl, _, rfl, _, _, L, r, rfl, .inl rfl, hok, .inr rfl, by omega, ?_⟩
      refine ⟨_, rfl, (by show 6 ≤ sizeLine; decide), ?_⟩
      refine ⟨_, rfl, _, rfl, (by show 1 ≤ sizeLine; decide), (by show (0 : Int) ≤ 5; decide), (by show (5 : Int) < 2 ^ 63; decide), (by show 1 * 5 ≤ sizeLine; decide), _, rfl, (by show 1 ≤ sizeLine; decide), (by show 5 + 1 ≤ sizeLine; decide), ?_⟩
      have hgl := goes_len L r
      refine ⟨_, rfl, ?_, ?_, _, rfl, iteF ⟨_, _, _, _, _, rfl, by omega⟩⟩
      · have d1 := flat_depL (strs_flat (goes L r))
        have d2 := flat_depL (strs_flat r)
        show dep (.lst [.tup ((goes L r).map D.str), .tup ((goes L r).map D.str), .tup ((goes L r).map D.str), .tup ((goes L r).map D.str), .tup ((goes L r).map D.str), .lst (r.map D.str)]) ≤ 3
        simp only [dep, depL, d1, d2]
        decide
      · have c1 := flat_cleanL (strs_flat (goes L r)) (hsz _ (by rw [List.length_map]; omega))
        have c2 := flat_cleanL (strs_flat r) (hsz _ (by rw [List.length_map]; omega))
        show clean (.lst [.tup ((goes L r).map D.str), .tup ((goes L r).map D.str), .tup ((goes L r).map D.str), .tup ((goes L r).map D.str), .tup ((goes L r).map D.str), .lst (r.map D.str)]) = true
        simp only [clean, cleanL, c1, c2, Bool.and_true, Bool.true_and]
        rfl
    · rintro env m3 ⟨f10, f11, f12, f13, f14, rfl, h3⟩
      have hl3 : (nats 3).length = 3 := rfl
      rw [hl3] at h3
      exact ⟨_, _, _, _, _, _, _, _, _, _, _, _, _, _, rfl, by omega⟩
end
end TC
namespace TC
open PySem PySem.Spec PyProof.Rows L2 RZ
variable [Cl]
abbrev sLaw : Stmt := top 50
section
variable {P : Program} {w : World} {K : PySem.W.Frag} {mg : Str → Option Value} {base : Heap}
def spLaw (K : PySem.W.Frag) : Sp := fun vs H Q _ => ∃ (a : Addr) (ns : List Int), vs = [.ref a] ∧ SqL K H a (ns.map V.int) ∧ ns.length ≤ 63 ∧ ∀ H', Q (.bl true) H'
theorem scLaw : FnScope ["_law_script", "_law_cells_here", "_law_k"] ["_law_script"] (defScope sLaw) := ⟨rfl, rfl, rfl, by decide +kernel, rfl, by decide +kernel, by decide +kernel⟩
theorem range_true (N : Nat) : (List.range N).map (fun _ => D.bl true) = (List.replicate N true).map D.bl := by
  apply List.ext_getElem?
  intro i
  by_cases h : i < N
  · simp [h]
  · simp [h]
theorem ok_law {f : Addr} {fd : FuncData} {fA1 : Addr} {fdA1 : FuncData} {fA2 : Addr} {fdA2 : FuncData} {fA3 : Addr} {fdA3 : FuncData} {fA4 : Addr} {fdA4 : FuncData} {fA5 : Addr} {fdA5 : FuncData} {fA6 : Addr} {fdA6 : FuncData} {fA7 : Addr} {fdA7 : FuncData} {fA8 : Addr} {fdA8 : FuncData} {fA9 : Addr} {fdA9 : FuncData} {fAa : Addr} {fdAa : FuncData} {fAs : Addr} {fdAs : FuncData} {fAb : Addr} {fdAb : FuncData} {fAc : Addr} {fdAc : FuncData} {fAh : Addr} {fdAh : FuncData} {fAr : Addr} {fdAr : FuncData} (F : Fun K "law" "law" sLaw f fd) (T : Blt mg) (R : RowsF K mg) (S : StepC K mg) (RC : RuleC K mg) (A1 : At K mg "_law_take" sTake ["_law_urn", "_law_low_so"] fA1 fdA1) (A2 : At K mg "_law_of" sOf ["_law_urn", "_law_some_so"] fA2 fdA2) (A3 : At K mg "_law_mixed" sMixed ["_law_urn", "_law_pool"] fA3 fdA3) (A4 : At K mg "_law_tags" sTags ["_law_urn", "_law_many_so"] fA4 fdA4) (A5 : At K mg "_law_row" sRow ["_law_urn", "_law_pool", "_law_most"] fA5 fdA5) (A6 : At K mg "_law_line" sLine ["_law_urn", "_law_tags_here", "_law_most", "_law_high"] fA6 fdA6) (A7 : At K mg "_law_done" sDone ["_law_row_so", "_law_line_so"] fA7 fdA7) (A8 : At K mg "_law_host" sHost ["_law_line_so"] fA8 fdA8) (A9 : At K mg "_law_fresh" sFresh ["_law_tags_here", "_law_many_so"] fA9 fdA9) (Aa : At K mg "_law_word" sWord ["_law_line_so"] fAa fdAa) (As : At K mg "_law_same" sSame ["_law_got", "_law_goal"] fAs fdAs) (Ab : At K mg "_law_box" sBox ["_law_script", "_law_k"] fAb fdAb) (Ac : At K mg "_law_cells" sCells ["_law_script", "_law_top"] fAc fdAc) (Ah : At K mg "_law_by_hand_right" sHand [] fAh fdAh) (Ar : At K mg "_law_right" sRight ["_law_urn"] fAr fdAr) : FnOk P w K mg base CX0 8 f fd ["_law_script"] (spLaw K) := by
  refine F.ok scLaw (fun vs H Q E h => ?_) (fun cdv A outer s H vs Q E hr h => ?_)
  · obtain ⟨a, ns, rfl, _⟩ := h
    rfl
  · obtain ⟨a, ns, rfl, hS, hl, q⟩ := h
    have nd := scLaw.nd
    refine ⟨_, pss_cons (ps_set (i := 1) nd rfl (Or.inr rfl) (pe_call (ok_cells Ac.fn T) (hr.mono (by decide)) rfl Ac.mg Ac.fn.kp Ac.bd .nil pass0 (pa_cons (pv 0) (pa_cons pe_int pa_nil)))) (pss_one ps_self), ?_⟩
    refine ⟨_, rfl, a, ns, 3, rfl, hS, hl, by decide, by decide, fun H' p ms sm np hp l0 l1 => ?_⟩
    have fl : (ms.map D.int).all flatD = true := by rw [List.all_eq_true]; intro d hd; obtain ⟨b, _, rfl⟩ := List.mem_map.mp hd; rfl
    have hds : ∀ l : List Int, Hds ⟨none, [], [], fun _ h => h⟩ H' (l.map V.int) (l.map D.int) := fun l => by
      induction l with
      | nil => exact .nil
      | cons x l ih => exact .cons (Hd.int.mpr rfl) ih
    have hcell : Hd ⟨none, [], [], fun _ h => h⟩ H' (.ref p) (.lst (ms.map D.int)) := Hd.lst.mpr ⟨p, _, rfl, fun z => (by rcases z with z | z <;> cases z), hp, hds ms⟩
    refine (ds_ret (de_and (de_call0 (ok_hand Ah.fn T R S RC As) (hr.mono (by decide)) Ah.mg Ah.fn.kp Ah.bd) (de_one (de_callB (dc_all rfl) T.all (da_cons (de_lc (own := [("_law_k", 2)]) rfl nd (di_range T.range (de_callB dc_lenA T.len (da_cons (dv 1) da_nil))) (blkOk_by (N := ["_law_script", "_law_cells_here", "_law_k"]) (sc := defScope sLaw) (by decide +kernel)) (fun _ _ _ _ _ => dg_name (i := 2) nd) (fun _ _ _ _ _ => dts_nil) (fun _ _ _ _ _ => de_rb (B := 1000) (ok_right Ar.fn T R S RC A1 A2 A3 A4 A5 A6 A7 A8 A9 Aa As) (by decide) (ok_box Ab.fn T) (hr.mono (by decide)) (hr.mono (by decide)) Ar.mg Ar.fn.kp Ar.bd Ab.mg Ab.fn.kp Ab.bd (dv 1) (dv 2))) da_nil))))).run ⟨none, [], [], fun _ h => h⟩ _ H' [none, some (.lst (ms.map D.int)), none] 0 (fun _ _ => False) (fun d _ => d = .bl true) _ ⟨rfl, ?_⟩ ⟨fun _ z => by (cases z), fun _ z => by (cases z)⟩ ?_ (fun _ _ _ _ _ _ _ z => z.elim) (fun v d m' H2 _ _ h e => ?_)
    · intro i d e
      match i, e with
      | 1, e => cases e; exact ⟨_, rfl, hcell⟩
      | 0, e => cases e
      | 2, e => cases e
      | n + 3, e => simp at e
    · refine ⟨rfl, _, rfl, iteT ?_⟩
      refine ⟨_, rfl, (ms.map D.int).length, rfl, by rw [List.length_map]; omega, by simp [nats]; exact Nat.le_trans l1 (by decide), ?_⟩
      refine lc_in (ms.map D.int).length (fun _ => .bl true) (fun k hk mm R hR => ?_) ?_
      · rw [List.length_map] at hk
        exact ⟨_, rfl, _, rfl, ms, k, rfl, rfl, by omega, by omega, by omega, hR⟩
      · exact ⟨List.replicate (ms.map D.int).length true, by rw [range_true], by rw [all_rep]⟩
    · subst e
      rw [Hd.bl] at h
      subst h
      exact q H2
end
end TC
namespace TC
open PySem PySem.Spec PyProof.Rows L2 RZ
set_option maxHeartbeats 4000000 in
theorem all_mk {l : PySem.W.OpenLaw} {w : World} {K : PySem.W.Frag} {h : Heap} {mg : Str → Option Value} {fa : Addr} {fn1 fn2 fn3 fn4 fn5 fn6 fn7 fn8 fn9 fnb fA1 fA2 fA3 fA4 fA5 fA6 fA7 fA8 fA9 fAa fAs fAb fAc fAh fAr fAl fmI fmO fmK fmW fmC frI frO frC frS C0 C1 pmO pmK pmW TrI prO aE : Addr} {odn1 ann1 odn2 ann2 odn3 ann3 odn4 ann4 odn5 ann5 odn6 ann6 odn7 ann7 odn8 ann8 odn9 ann9 odnb annb odA1 anA1 odA2 anA2 odA3 anA3 odA4 anA4 odA5 anA5 odA6 anA6 odA7 anA7 odA8 anA8 odA9 anA9 odAa anAa odAs anAs odAb anAb odAc anAc odAh anAh odAr anAr odAl anAl odmI anmI odmO anmO odmK anmK odmW anmW odmC anmC odrI anrI odrO anrO odrC anrC odrS anrS : Option Addr} {sln1 sln2 sln3 sln4 sln5 sln6 sln7 sln8 sln9 slnb slA1 slA2 slA3 slA4 slA5 slA6 slA7 slA8 slA9 slAa slAs slAb slAc slAh slAr slAl slmI slmO slmK slmW slmC slrI slrO slrC slrS : Array (Option Value)} {ocn1 kVn1 dcn1 pmn1 cdn1 ctn1 ocn2 kVn2 dcn2 pmn2 cdn2 ctn2 ocn3 kVn3 dcn3 pmn3 cdn3 ctn3 ocn4 kVn4 dcn4 pmn4 cdn4 ctn4 ocn5 kVn5 dcn5 pmn5 cdn5 ctn5 ocn6 kVn6 dcn6 pmn6 cdn6 ctn6 ocn7 kVn7 dcn7 pmn7 cdn7 ctn7 ocn8 kVn8 dcn8 pmn8 cdn8 ctn8 ocn9 kVn9 dcn9 pmn9 cdn9 ctn9 ocnb kVnb dcnb pmnb cdnb ctnb ocA1 kVA1 dcA1 pmA1 cdA1 ctA1 ocA2 kVA2 dcA2 pmA2 cdA2 ctA2 ocA3 kVA3 dcA3 pmA3 cdA3 ctA3 ocA4 kVA4 dcA4 pmA4 cdA4 ctA4 ocA5 kVA5 dcA5 pmA5 cdA5 ctA5 ocA6 kVA6 dcA6 pmA6 cdA6 ctA6 ocA7 kVA7 dcA7 pmA7 cdA7 ctA7 ocA8 kVA8 dcA8 pmA8 cdA8 ctA8 ocA9 kVA9 dcA9 pmA9 cdA9 ctA9 ocAa kVAa dcAa pmAa cdAa ctAa ocAs kVAs dcAs pmAs cdAs ctAs ocAb kVAb dcAb pmAb cdAb ctAb ocAc kVAc dcAc pmAc cdAc ctAc ocAh kVAh dcAh pmAh cdAh ctAh ocAr kVAr dcAr pmAr cdAr ctAr ocAl kVAl dcAl pmAl cdAl ctAl ocmI kVmI dcmI pmmI cdmI ctmI ocmO kVmO dcmO pmmO cdmO ctmO ocmK kVmK dcmK pmmK cdmK ctmK ocmW kVmW dcmW pmmW cdmW ctmW ocmC kVmC dcmC pmmC cdmC ctmC ocrI kVrI dcrI pmrI cdrI ctrI ocrO kVrO dcrO pmrO cdrO ctrO ocrC kVrC dcrC pmrC cdrC ctrC ocrS kVrS dcrS pmrS cdrS ctrS : Value} {oderI odE : Option Addr} {nnrI nnE : Nat} {slerI slE : Array (Option Value)} {rrmO rrmK rrmW rrrO : List Value} (X : K.In h) (G : h.Ns mainGlobals mg) (hfa : mg "law" = some (.ref fa))
    (an1 : PySem.W.nsIn K mainGlobals "is_number" = some (some (.ref fn1)))
    (ln1 : K.lookup fn1 = some ⟨ocn1, odn1, .func (PySem.W.fnOf "is_number" "is_number" (defArgs sIsNumber) (defBody sIsNumber) (defScope sIsNumber) .none kVn1 dcn1 pmn1 ann1 cdn1 ctn1), sln1⟩)
    (cn1 : PySem.W.codeIn K cdn1 "is_number" = true)
    (kn1 : PySem.W.keepIn K (.ref fn1) = true)
    (an2 : PySem.W.nsIn K mainGlobals "is_numeral" = some (some (.ref fn2)))
    (ln2 : K.lookup fn2 = some ⟨ocn2, odn2, .func (PySem.W.fnOf "is_numeral" "is_numeral" (defArgs sNumeral) (defBody sNumeral) (defScope sNumeral) .none kVn2 dcn2 pmn2 ann2 cdn2 ctn2), sln2⟩)
    (cn2 : PySem.W.codeIn K cdn2 "is_numeral" = true)
    (kn2 : PySem.W.keepIn K (.ref fn2) = true)
    (an3 : PySem.W.nsIn K mainGlobals "is_name" = some (some (.ref fn3)))
    (ln3 : K.lookup fn3 = some ⟨ocn3, odn3, .func (PySem.W.fnOf "is_name" "is_name" (defArgs sName) (defBody sName) (defScope sName) .none kVn3 dcn3 pmn3 ann3 cdn3 ctn3), sln3⟩)
    (cn3 : PySem.W.codeIn K cdn3 "is_name" = true)
    (kn3 : PySem.W.keepIn K (.ref fn3) = true)
    (an4 : PySem.W.nsIn K mainGlobals "outside" = some (some (.ref fn4)))
    (ln4 : K.lookup fn4 = some ⟨ocn4, odn4, .func (PySem.W.fnOf "outside" "outside" (defArgs sOutside) (defBody sOutside) (defScope sOutside) .none kVn4 dcn4 pmn4 ann4 cdn4 ctn4), sln4⟩)
    (cn4 : PySem.W.codeIn K cdn4 "outside" = true)
    (kn4 : PySem.W.keepIn K (.ref fn4) = true)
    (an5 : PySem.W.nsIn K mainGlobals "forgotten" = some (some (.ref fn5)))
    (ln5 : K.lookup fn5 = some ⟨ocn5, odn5, .func (PySem.W.fnOf "forgotten" "forgotten" (defArgs sForgotten) (defBody sForgotten) (defScope sForgotten) .none kVn5 dcn5 pmn5 ann5 cdn5 ctn5), sln5⟩)
    (cn5 : PySem.W.codeIn K cdn5 "forgotten" = true)
    (kn5 : PySem.W.keepIn K (.ref fn5) = true)
    (an6 : PySem.W.nsIn K mainGlobals "touched" = some (some (.ref fn6)))
    (ln6 : K.lookup fn6 = some ⟨ocn6, odn6, .func (PySem.W.fnOf "touched" "touched" (defArgs sTouched) (defBody sTouched) (defScope sTouched) .none kVn6 dcn6 pmn6 ann6 cdn6 ctn6), sln6⟩)
    (cn6 : PySem.W.codeIn K cdn6 "touched" = true)
    (kn6 : PySem.W.keepIn K (.ref fn6) = true)
    (an7 : PySem.W.nsIn K mainGlobals "capped" = some (some (.ref fn7)))
    (ln7 : K.lookup fn7 = some ⟨ocn7, odn7, .func (PySem.W.fnOf "capped" "capped" (defArgs sCapped) (defBody sCapped) (defScope sCapped) .none kVn7 dcn7 pmn7 ann7 cdn7 ctn7), sln7⟩)
    (cn7 : PySem.W.codeIn K cdn7 "capped" = true)
    (kn7 : PySem.W.keepIn K (.ref fn7) = true)
    (an8 : PySem.W.nsIn K mainGlobals "is_step" = some (some (.ref fn8)))
    (ln8 : K.lookup fn8 = some ⟨ocn8, odn8, .func (PySem.W.fnOf "is_step" "is_step" (defArgs sIsStep) (defBody sIsStep) (defScope sIsStep) .none kVn8 dcn8 pmn8 ann8 cdn8 ctn8), sln8⟩)
    (cn8 : PySem.W.codeIn K cdn8 "is_step" = true)
    (kn8 : PySem.W.keepIn K (.ref fn8) = true)
    (an9 : PySem.W.nsIn K mainGlobals "row_behind_step" = some (some (.ref fn9)))
    (ln9 : K.lookup fn9 = some ⟨ocn9, odn9, .func (PySem.W.fnOf "row_behind_step" "row_behind_step" (defArgs sRbs) (defBody sRbs) (defScope sRbs) .none kVn9 dcn9 pmn9 ann9 cdn9 ctn9), sln9⟩)
    (cn9 : PySem.W.codeIn K cdn9 "row_behind_step" = true)
    (kn9 : PySem.W.keepIn K (.ref fn9) = true)
    (anb : PySem.W.nsIn K mainGlobals "row_behind" = some (some (.ref fnb)))
    (lnb : K.lookup fnb = some ⟨ocnb, odnb, .func (PySem.W.fnOf "row_behind" "row_behind" (defArgs sRowB) (defBody sRowB) (defScope sRowB) .none kVnb dcnb pmnb annb cdnb ctnb), slnb⟩)
    (cnb : PySem.W.codeIn K cdnb "row_behind" = true)
    (knb : PySem.W.keepIn K (.ref fnb) = true)
    (aA1 : PySem.W.nsIn K mainGlobals "_law_take" = some (some (.ref fA1)))
    (lA1 : K.lookup fA1 = some ⟨ocA1, odA1, .func (PySem.W.fnOf "_law_take" "_law_take" (defArgs sTake) (defBody sTake) (defScope sTake) .none kVA1 dcA1 pmA1 anA1 cdA1 ctA1), slA1⟩)
    (cA1 : PySem.W.codeIn K cdA1 "_law_take" = true)
    (kA1 : PySem.W.keepIn K (.ref fA1) = true)
    (aA2 : PySem.W.nsIn K mainGlobals "_law_of" = some (some (.ref fA2)))
    (lA2 : K.lookup fA2 = some ⟨ocA2, odA2, .func (PySem.W.fnOf "_law_of" "_law_of" (defArgs sOf) (defBody sOf) (defScope sOf) .none kVA2 dcA2 pmA2 anA2 cdA2 ctA2), slA2⟩)
    (cA2 : PySem.W.codeIn K cdA2 "_law_of" = true)
    (kA2 : PySem.W.keepIn K (.ref fA2) = true)
    (aA3 : PySem.W.nsIn K mainGlobals "_law_mixed" = some (some (.ref fA3)))
    (lA3 : K.lookup fA3 = some ⟨ocA3, odA3, .func (PySem.W.fnOf "_law_mixed" "_law_mixed" (defArgs sMixed) (defBody sMixed) (defScope sMixed) .none kVA3 dcA3 pmA3 anA3 cdA3 ctA3), slA3⟩)
    (cA3 : PySem.W.codeIn K cdA3 "_law_mixed" = true)
    (kA3 : PySem.W.keepIn K (.ref fA3) = true)
    (aA4 : PySem.W.nsIn K mainGlobals "_law_tags" = some (some (.ref fA4)))
    (lA4 : K.lookup fA4 = some ⟨ocA4, odA4, .func (PySem.W.fnOf "_law_tags" "_law_tags" (defArgs sTags) (defBody sTags) (defScope sTags) .none kVA4 dcA4 pmA4 anA4 cdA4 ctA4), slA4⟩)
    (cA4 : PySem.W.codeIn K cdA4 "_law_tags" = true)
    (kA4 : PySem.W.keepIn K (.ref fA4) = true)
    (aA5 : PySem.W.nsIn K mainGlobals "_law_row" = some (some (.ref fA5)))
    (lA5 : K.lookup fA5 = some ⟨ocA5, odA5, .func (PySem.W.fnOf "_law_row" "_law_row" (defArgs sRow) (defBody sRow) (defScope sRow) .none kVA5 dcA5 pmA5 anA5 cdA5 ctA5), slA5⟩)
    (cA5 : PySem.W.codeIn K cdA5 "_law_row" = true)
    (kA5 : PySem.W.keepIn K (.ref fA5) = true)
    (aA6 : PySem.W.nsIn K mainGlobals "_law_line" = some (some (.ref fA6)))
    (lA6 : K.lookup fA6 = some ⟨ocA6, odA6, .func (PySem.W.fnOf "_law_line" "_law_line" (defArgs sLine) (defBody sLine) (defScope sLine) .none kVA6 dcA6 pmA6 anA6 cdA6 ctA6), slA6⟩)
    (cA6 : PySem.W.codeIn K cdA6 "_law_line" = true)
    (kA6 : PySem.W.keepIn K (.ref fA6) = true)
    (aA7 : PySem.W.nsIn K mainGlobals "_law_done" = some (some (.ref fA7)))
    (lA7 : K.lookup fA7 = some ⟨ocA7, odA7, .func (PySem.W.fnOf "_law_done" "_law_done" (defArgs sDone) (defBody sDone) (defScope sDone) .none kVA7 dcA7 pmA7 anA7 cdA7 ctA7), slA7⟩)
    (cA7 : PySem.W.codeIn K cdA7 "_law_done" = true)
    (kA7 : PySem.W.keepIn K (.ref fA7) = true)
    (aA8 : PySem.W.nsIn K mainGlobals "_law_host" = some (some (.ref fA8)))
    (lA8 : K.lookup fA8 = some ⟨ocA8, odA8, .func (PySem.W.fnOf "_law_host" "_law_host" (defArgs sHost) (defBody sHost) (defScope sHost) .none kVA8 dcA8 pmA8 anA8 cdA8 ctA8), slA8⟩)
    (cA8 : PySem.W.codeIn K cdA8 "_law_host" = true)
    (kA8 : PySem.W.keepIn K (.ref fA8) = true)
    (aA9 : PySem.W.nsIn K mainGlobals "_law_fresh" = some (some (.ref fA9)))
    (lA9 : K.lookup fA9 = some ⟨ocA9, odA9, .func (PySem.W.fnOf "_law_fresh" "_law_fresh" (defArgs sFresh) (defBody sFresh) (defScope sFresh) .none kVA9 dcA9 pmA9 anA9 cdA9 ctA9), slA9⟩)
    (cA9 : PySem.W.codeIn K cdA9 "_law_fresh" = true)
    (kA9 : PySem.W.keepIn K (.ref fA9) = true)
    (aAa : PySem.W.nsIn K mainGlobals "_law_word" = some (some (.ref fAa)))
    (lAa : K.lookup fAa = some ⟨ocAa, odAa, .func (PySem.W.fnOf "_law_word" "_law_word" (defArgs sWord) (defBody sWord) (defScope sWord) .none kVAa dcAa pmAa anAa cdAa ctAa), slAa⟩)
    (cAa : PySem.W.codeIn K cdAa "_law_word" = true)
    (kAa : PySem.W.keepIn K (.ref fAa) = true)
    (aAs : PySem.W.nsIn K mainGlobals "_law_same" = some (some (.ref fAs)))
    (lAs : K.lookup fAs = some ⟨ocAs, odAs, .func (PySem.W.fnOf "_law_same" "_law_same" (defArgs sSame) (defBody sSame) (defScope sSame) .none kVAs dcAs pmAs anAs cdAs ctAs), slAs⟩)
    (cAs : PySem.W.codeIn K cdAs "_law_same" = true)
    (kAs : PySem.W.keepIn K (.ref fAs) = true)
    (aAb : PySem.W.nsIn K mainGlobals "_law_box" = some (some (.ref fAb)))
    (lAb : K.lookup fAb = some ⟨ocAb, odAb, .func (PySem.W.fnOf "_law_box" "_law_box" (defArgs sBox) (defBody sBox) (defScope sBox) .none kVAb dcAb pmAb anAb cdAb ctAb), slAb⟩)
    (cAb : PySem.W.codeIn K cdAb "_law_box" = true)
    (kAb : PySem.W.keepIn K (.ref fAb) = true)
    (aAc : PySem.W.nsIn K mainGlobals "_law_cells" = some (some (.ref fAc)))
    (lAc : K.lookup fAc = some ⟨ocAc, odAc, .func (PySem.W.fnOf "_law_cells" "_law_cells" (defArgs sCells) (defBody sCells) (defScope sCells) .none kVAc dcAc pmAc anAc cdAc ctAc), slAc⟩)
    (cAc : PySem.W.codeIn K cdAc "_law_cells" = true)
    (kAc : PySem.W.keepIn K (.ref fAc) = true)
    (aAh : PySem.W.nsIn K mainGlobals "_law_by_hand_right" = some (some (.ref fAh)))
    (lAh : K.lookup fAh = some ⟨ocAh, odAh, .func (PySem.W.fnOf "_law_by_hand_right" "_law_by_hand_right" (defArgs sHand) (defBody sHand) (defScope sHand) .none kVAh dcAh pmAh anAh cdAh ctAh), slAh⟩)
    (cAh : PySem.W.codeIn K cdAh "_law_by_hand_right" = true)
    (kAh : PySem.W.keepIn K (.ref fAh) = true)
    (aAr : PySem.W.nsIn K mainGlobals "_law_right" = some (some (.ref fAr)))
    (lAr : K.lookup fAr = some ⟨ocAr, odAr, .func (PySem.W.fnOf "_law_right" "_law_right" (defArgs sRight) (defBody sRight) (defScope sRight) .none kVAr dcAr pmAr anAr cdAr ctAr), slAr⟩)
    (cAr : PySem.W.codeIn K cdAr "_law_right" = true)
    (kAr : PySem.W.keepIn K (.ref fAr) = true)
    (aAl : PySem.W.nsIn K mainGlobals "law" = some (some (.ref fAl)))
    (lAl : K.lookup fAl = some ⟨ocAl, odAl, .func (PySem.W.fnOf "law" "law" (defArgs sLaw) (defBody sLaw) (defScope sLaw) .none kVAl dcAl pmAl anAl cdAl ctAl), slAl⟩)
    (cAl : PySem.W.codeIn K cdAl "law" = true)
    (kAl : PySem.W.keepIn K (.ref fAl) = true)
    (aCC0 : PySem.W.nsIn K mainGlobals "Step" = some (some (.ref C0)))
    (pgC0 : PySem.W.plainGet K C0 Str.empty = true)
    (hdC0 : PySem.W.hasDictIn K C0 = true)
    (poC0 : PySem.W.plainOver K C0 = true)
    (saC0 : PySem.W.findIn K (.ref C0) "__setattr__" = some (some (.builtin "object.__setattr__")))
    (mkC0 : PySem.W.makesIn K C0 = true)
    (kcC0 : PySem.W.keepIn K (.ref C0) = true)
    (rdC0 : PySem.W.readsIn K C0 (.type "type") = true)
    (gaC0 : PySem.W.specialIn K (.ref C0) "__getattribute__" = some (some (.builtin "type.__getattribute__")))
    (n0C0 : PySem.W.findIn K (.ref C0) "_kind" = some none)
    (n1C0 : PySem.W.findIn K (.ref C0) "_what" = some none)
    (aCC1 : PySem.W.nsIn K mainGlobals "Rule" = some (some (.ref C1)))
    (pgC1 : PySem.W.plainGet K C1 Str.empty = true)
    (hdC1 : PySem.W.hasDictIn K C1 = true)
    (poC1 : PySem.W.plainOver K C1 = true)
    (saC1 : PySem.W.findIn K (.ref C1) "__setattr__" = some (some (.builtin "object.__setattr__")))
    (mkC1 : PySem.W.makesIn K C1 = true)
    (kcC1 : PySem.W.keepIn K (.ref C1) = true)
    (rdC1 : PySem.W.readsIn K C1 (.type "type") = true)
    (gaC1 : PySem.W.specialIn K (.ref C1) "__getattribute__" = some (some (.builtin "type.__getattribute__")))
    (jaC1 : PySem.W.findIn K (.ref C1) "__class__" = some (some (.builtin "object.__class__")))
    (jmC1 : PySem.W.mroIn K C1 (.type "object") = some true)
    (e0C1 : (Value.ref C1 == Value.ref C0) = false)
    (m0C1 : PySem.W.mroIn K C1 (.ref C0) = some false)
    (t0C1 : PySem.W.typeIn K (.ref C0) = some (.type "type"))
    (n0C1 : PySem.W.findIn K (.ref C1) "_steps" = some none)
    (amI : PySem.W.findIn K (.ref C0) "__init__" = some (some (.ref fmI)))
    (imI : PySem.W.isFn K (.ref fmI) = true)
    (lmI : K.lookup fmI = some ⟨ocmI, odmI, .func (PySem.W.fnOf "__init__" "Step.__init__" (defArgs sStepI) (defBody sStepI) (defScope sStepI) .none kVmI dcmI pmmI anmI cdmI ctmI), slmI⟩)
    (cmI : PySem.W.codeIn K cdmI "Step.__init__" = true)
    (kmI : PySem.W.keepIn K (.ref fmI) = true)
    (amO : PySem.W.findCls K (.ref C0) (.type "type") "of" = some (.get (.builtin "staticmethod.__get__") (.ref pmO) .none (.ref C0)))
    (rmO : PySem.W.recIn K pmO "staticmethod" = some (.ref fmO :: rrmO))
    (lmO : K.lookup fmO = some ⟨ocmO, odmO, .func (PySem.W.fnOf "of" "Step.of" (defArgs sStepO) (defBody sStepO) (defScope sStepO) .none kVmO dcmO pmmO anmO cdmO ctmO), slmO⟩)
    (cmO : PySem.W.codeIn K cdmO "Step.of" = true)
    (kmO : PySem.W.keepIn K (.ref fmO) = true)
    (amK : PySem.W.findIn K (.ref C0) "kind" = some (some (.ref pmK)))
    (gmK : PySem.W.specialIn K (.ref pmK) "__get__" = some (some (.builtin "property.__get__")))
    (tmK : PySem.W.takesIn K (.ref pmK) = some true)
    (rmK : PySem.W.recIn K pmK "property" = some (.ref fmK :: rrmK))
    (lmK : K.lookup fmK = some ⟨ocmK, odmK, .func (PySem.W.fnOf "kind" "Step.kind" (defArgs sStepK) (defBody sStepK) (defScope sStepK) .none kVmK dcmK pmmK anmK cdmK ctmK), slmK⟩)
    (cmK : PySem.W.codeIn K cdmK "Step.kind" = true)
    (kmK : PySem.W.keepIn K (.ref fmK) = true)
    (amW : PySem.W.findIn K (.ref C0) "what" = some (some (.ref pmW)))
    (gmW : PySem.W.specialIn K (.ref pmW) "__get__" = some (some (.builtin "property.__get__")))
    (tmW : PySem.W.takesIn K (.ref pmW) = some true)
    (rmW : PySem.W.recIn K pmW "property" = some (.ref fmW :: rrmW))
    (lmW : K.lookup fmW = some ⟨ocmW, odmW, .func (PySem.W.fnOf "what" "Step.what" (defArgs sStepW) (defBody sStepW) (defScope sStepW) .none kVmW dcmW pmmW anmW cdmW ctmW), slmW⟩)
    (cmW : PySem.W.codeIn K cdmW "Step.what" = true)
    (kmW : PySem.W.keepIn K (.ref fmW) = true)
    (amC : PySem.W.findIn K (.ref C0) "__call__" = some (some (.ref fmC)))
    (imC : PySem.W.isFn K (.ref fmC) = true)
    (jmC : PySem.W.fnIn K fmC = true)
    (lmC : K.lookup fmC = some ⟨ocmC, odmC, .func (PySem.W.fnOf "__call__" "Step.__call__" (defArgs sStepC) (defBody sStepC) (defScope sStepC) .none kVmC dcmC pmmC anmC cdmC ctmC), slmC⟩)
    (cmC : PySem.W.codeIn K cdmC "Step.__call__" = true)
    (kmC : PySem.W.keepIn K (.ref fmC) = true)
    (arI : PySem.W.findIn K (.ref C1) "__init__" = some (some (.ref frI)))
    (irI : PySem.W.isFn K (.ref frI) = true)
    (lrI : K.lookup frI = some ⟨ocrI, odrI, .func (PySem.W.fnOf "__init__" "Rule.__init__" (defArgs sRuleI) (defBody sRuleI) (defScope sRuleI) (.ref TrI) kVrI dcrI pmrI anrI cdrI ctrI), slrI⟩)
    (crI : PySem.W.codeIn K cdrI "Rule.__init__" = true)
    (krI : PySem.W.keepIn K (.ref frI) = true)
    (drI : K.lookup TrI = some ⟨.type "tuple", oderI, .seq #[.ref aE] nnrI, slerI⟩)
    (arO : PySem.W.findCls K (.ref C1) (.type "type") "of" = some (.get (.builtin "staticmethod.__get__") (.ref prO) .none (.ref C1)))
    (rrO : PySem.W.recIn K prO "staticmethod" = some (.ref frO :: rrrO))
    (lrO : K.lookup frO = some ⟨ocrO, odrO, .func (PySem.W.fnOf "of" "Rule.of" (defArgs sRuleO) (defBody sRuleO) (defScope sRuleO) .none kVrO dcrO pmrO anrO cdrO ctrO), slrO⟩)
    (crO : PySem.W.codeIn K cdrO "Rule.of" = true)
    (krO : PySem.W.keepIn K (.ref frO) = true)
    (arC : PySem.W.findIn K (.ref C1) "__call__" = some (some (.ref frC)))
    (irC : PySem.W.isFn K (.ref frC) = true)
    (jrC : PySem.W.fnIn K frC = true)
    (lrC : K.lookup frC = some ⟨ocrC, odrC, .func (PySem.W.fnOf "__call__" "Rule.__call__" (defArgs sRuleC) (defBody sRuleC) (defScope sRuleC) .none kVrC dcrC pmrC anrC cdrC ctrC), slrC⟩)
    (crC : PySem.W.codeIn K cdrC "Rule.__call__" = true)
    (krC : PySem.W.keepIn K (.ref frC) = true)
    (arS : PySem.W.findIn K (.ref C1) "__rshift__" = some (some (.ref frS)))
    (irS : PySem.W.isFn K (.ref frS) = true)
    (srS : PySem.W.selfFirst K C1 = true)
    (lrS : K.lookup frS = some ⟨ocrS, odrS, .func (PySem.W.fnOf "__rshift__" "Rule.__rshift__" (defArgs sRuleS) (defBody sRuleS) (defScope sRuleS) .none kVrS dcrS pmrS anrS cdrS ctrS), slrS⟩)
    (crS : PySem.W.codeIn K cdrS "Rule.__rshift__" = true)
    (krS : PySem.W.keepIn K (.ref frS) = true)
    (lE : K.lookup aE = some ⟨.type "tuple", odE, .seq #[] nnE, slE⟩)
    (jn : PySem.W.specialIn K (.builtin "object.__class__") "__get__" = some (some (.builtin "getset_descriptor.__get__")))
    (jt : PySem.W.takesIn K (.builtin "object.__class__") = some true)
    (ztuple : PySem.W.nsIn K mainGlobals "tuple" = some none)
    (zlist : PySem.W.nsIn K mainGlobals "list" = some none)
    (zint : PySem.W.nsIn K mainGlobals "int" = some none)
    (zlen : PySem.W.nsIn K mainGlobals "len" = some none)
    (zabs : PySem.W.nsIn K mainGlobals "abs" = some none)
    (zall : PySem.W.nsIn K mainGlobals "all" = some none)
    (zmax : PySem.W.nsIn K mainGlobals "max" = some none)
    (zrange : PySem.W.nsIn K mainGlobals "range" = some none)
    (zzip : PySem.W.nsIn K mainGlobals "zip" = some none)
    (zenumerate : PySem.W.nsIn K mainGlobals "enumerate" = some none)
    (zisinstance : PySem.W.nsIn K mainGlobals "isinstance" = some none)
    (zbool : PySem.W.nsIn K mainGlobals "bool" = some none)
    (zstr : PySem.W.nsIn K mainGlobals "str" = some none)
    (zsorted : PySem.W.nsIn K mainGlobals "sorted" = some none)
    (zset : PySem.W.nsIn K mainGlobals "set" = some none)
    (zmin : PySem.W.nsIn K mainGlobals "min" = some none) :
    ∃ fd : FuncData, (∀ (s : Shared) (v : Value), BindsTo s fd ⟨[v], []⟩ [("_law_script", v)]) ∧ ∀ base : Heap, K.In base → base.Ns mainGlobals mg → FnOk l.prog w K mg base CX0 8 fa fd ["_law_script"] (spLaw K) := by
  have e := hfa.symm.trans (PySem.W.mg_of X G aAl)
  cases e
  have T : Blt mg := ⟨PySem.W.mg_none_of X G ztuple, PySem.W.mg_none_of X G zlist, PySem.W.mg_none_of X G zint, PySem.W.mg_none_of X G zlen, PySem.W.mg_none_of X G zabs, PySem.W.mg_none_of X G zall, PySem.W.mg_none_of X G zmax, PySem.W.mg_none_of X G zrange, PySem.W.mg_none_of X G zzip, PySem.W.mg_none_of X G zenumerate, PySem.W.mg_none_of X G zisinstance, PySem.W.mg_none_of X G zbool, PySem.W.mg_none_of X G zstr, PySem.W.mg_none_of X G zsorted, PySem.W.mg_none_of X G zset, PySem.W.mg_none_of X G zmin⟩
  letI : Cl := ⟨fun n => match n with | 0 => (C0, ["_kind", "_what"]) | _ => (C1, ["_steps"]), aE⟩
  have Fn1 := fun_mk (st := sIsNumber) ln1 cn1 kn1
  have Fn2 := fun_mk (st := sNumeral) ln2 cn2 kn2
  have Fn3 := fun_mk (st := sName) ln3 cn3 kn3
  have Fn4 := fun_mk (st := sOutside) ln4 cn4 kn4
  have Fn5 := fun_mk (st := sForgotten) ln5 cn5 kn5
  have Fn6 := fun_mk (st := sTouched) ln6 cn6 kn6
  have Fn7 := fun_mk (st := sCapped) ln7 cn7 kn7
  have Fn8 := fun_mk (st := sIsStep) ln8 cn8 kn8
  have Fn9 := fun_mk (st := sRbs) ln9 cn9 kn9
  have Fnb := fun_mk (st := sRowB) lnb cnb knb
  have FA1 := fun_mk (st := sTake) lA1 cA1 kA1
  have FA2 := fun_mk (st := sOf) lA2 cA2 kA2
  have FA3 := fun_mk (st := sMixed) lA3 cA3 kA3
  have FA4 := fun_mk (st := sTags) lA4 cA4 kA4
  have FA5 := fun_mk (st := sRow) lA5 cA5 kA5
  have FA6 := fun_mk (st := sLine) lA6 cA6 kA6
  have FA7 := fun_mk (st := sDone) lA7 cA7 kA7
  have FA8 := fun_mk (st := sHost) lA8 cA8 kA8
  have FA9 := fun_mk (st := sFresh) lA9 cA9 kA9
  have FAa := fun_mk (st := sWord) lAa cAa kAa
  have FAs := fun_mk (st := sSame) lAs cAs kAs
  have FAb := fun_mk (st := sBox) lAb cAb kAb
  have FAc := fun_mk (st := sCells) lAc cAc kAc
  have FAh := fun_mk (st := sHand) lAh cAh kAh
  have FAr := fun_mk (st := sRight) lAr cAr kAr
  have FAl := fun_mk (st := sLaw) lAl cAl kAl
  have FmI := fun_mk (st := sStepI) lmI cmI kmI
  have FmO := fun_mk (st := sStepO) lmO cmO kmO
  have FmK := fun_mk (st := sStepK) lmK cmK kmK
  have FmW := fun_mk (st := sStepW) lmW cmW kmW
  have FmC := fun_mk (st := sStepC) lmC cmC kmC
  have FrI : FunD K "__init__" "Rule.__init__" (defArgs sRuleI) (defBody sRuleI) (defScope sRuleI) [V.ref Cl.e0] [] frI _ := ⟨⟨_, _, _, _, _, _, _, _, _, _, rfl, lrI, crI, .inr ⟨by simp, TrI, _, [.ref aE], _, rfl, drI, rfl, .cons rfl .nil⟩, .inl rfl⟩, krI⟩
  have FrO := fun_mk (st := sRuleO) lrO crO krO
  have FrC := fun_mk (st := sRuleC) lrC crC krC
  have FrS := fun_mk (st := sRuleS) lrS crS krS
  have An1 : At K mg "is_number" sIsNumber ["thing"] fn1 _ := ⟨Fn1, PySem.W.mg_of X G an1, (Fn1.binds (ps := ["thing"]) fun _ _ _ _ _ _ us hl => match us, hl with | [_], _ => rfl)⟩
  have An2 : At K mg "is_numeral" sNumeral ["text"] fn2 _ := ⟨Fn2, PySem.W.mg_of X G an2, (Fn2.binds (ps := ["text"]) fun _ _ _ _ _ _ us hl => match us, hl with | [_], _ => rfl)⟩
  have An3 : At K mg "is_name" sName ["thing"] fn3 _ := ⟨Fn3, PySem.W.mg_of X G an3, (Fn3.binds (ps := ["thing"]) fun _ _ _ _ _ _ us hl => match us, hl with | [_], _ => rfl)⟩
  have An4 : At K mg "outside" sOutside ["row", "names"] fn4 _ := ⟨Fn4, PySem.W.mg_of X G an4, (Fn4.binds (ps := ["row", "names"]) fun _ _ _ _ _ _ us hl => match us, hl with | [_, _], _ => rfl)⟩
  have An5 : At K mg "forgotten" sForgotten ["row", "name"] fn5 _ := ⟨Fn5, PySem.W.mg_of X G an5, (Fn5.binds (ps := ["row", "name"]) fun _ _ _ _ _ _ us hl => match us, hl with | [_, _], _ => rfl)⟩
  have An6 : At K mg "touched" sTouched ["row", "name"] fn6 _ := ⟨Fn6, PySem.W.mg_of X G an6, (Fn6.binds (ps := ["row", "name"]) fun _ _ _ _ _ _ us hl => match us, hl with | [_, _], _ => rfl)⟩
  have An7 : At K mg "capped" sCapped ["row", "number"] fn7 _ := ⟨Fn7, PySem.W.mg_of X G an7, (Fn7.binds (ps := ["row", "number"]) fun _ _ _ _ _ _ us hl => match us, hl with | [_, _], _ => rfl)⟩
  have An8 : At K mg "is_step" sIsStep ["kind", "what"] fn8 _ := ⟨Fn8, PySem.W.mg_of X G an8, (Fn8.binds (ps := ["kind", "what"]) fun _ _ _ _ _ _ us hl => match us, hl with | [_, _], _ => rfl)⟩
  have An9 : At K mg "row_behind_step" sRbs ["kind", "what", "row"] fn9 _ := ⟨Fn9, PySem.W.mg_of X G an9, (Fn9.binds (ps := ["kind", "what", "row"]) fun _ _ _ _ _ _ us hl => match us, hl with | [_, _, _], _ => rfl)⟩
  have Anb : At K mg "row_behind" sRowB ["steps", "row"] fnb _ := ⟨Fnb, PySem.W.mg_of X G anb, (Fnb.binds (ps := ["steps", "row"]) fun _ _ _ _ _ _ us hl => match us, hl with | [_, _], _ => rfl)⟩
  have AA1 : At K mg "_law_take" sTake ["_law_urn", "_law_low_so"] fA1 _ := ⟨FA1, PySem.W.mg_of X G aA1, (FA1.binds (ps := ["_law_urn", "_law_low_so"]) fun _ _ _ _ _ _ us hl => match us, hl with | [_, _], _ => rfl)⟩
  have AA2 : At K mg "_law_of" sOf ["_law_urn", "_law_some_so"] fA2 _ := ⟨FA2, PySem.W.mg_of X G aA2, (FA2.binds (ps := ["_law_urn", "_law_some_so"]) fun _ _ _ _ _ _ us hl => match us, hl with | [_, _], _ => rfl)⟩
  have AA3 : At K mg "_law_mixed" sMixed ["_law_urn", "_law_pool"] fA3 _ := ⟨FA3, PySem.W.mg_of X G aA3, (FA3.binds (ps := ["_law_urn", "_law_pool"]) fun _ _ _ _ _ _ us hl => match us, hl with | [_, _], _ => rfl)⟩
  have AA4 : At K mg "_law_tags" sTags ["_law_urn", "_law_many_so"] fA4 _ := ⟨FA4, PySem.W.mg_of X G aA4, (FA4.binds (ps := ["_law_urn", "_law_many_so"]) fun _ _ _ _ _ _ us hl => match us, hl with | [_, _], _ => rfl)⟩
  have AA5 : At K mg "_law_row" sRow ["_law_urn", "_law_pool", "_law_most"] fA5 _ := ⟨FA5, PySem.W.mg_of X G aA5, (FA5.binds (ps := ["_law_urn", "_law_pool", "_law_most"]) fun _ _ _ _ _ _ us hl => match us, hl with | [_, _, _], _ => rfl)⟩
  have AA6 : At K mg "_law_line" sLine ["_law_urn", "_law_tags_here", "_law_most", "_law_high"] fA6 _ := ⟨FA6, PySem.W.mg_of X G aA6, (FA6.binds (ps := ["_law_urn", "_law_tags_here", "_law_most", "_law_high"]) fun _ _ _ _ _ _ us hl => match us, hl with | [_, _, _, _], _ => rfl)⟩
  have AA7 : At K mg "_law_done" sDone ["_law_row_so", "_law_line_so"] fA7 _ := ⟨FA7, PySem.W.mg_of X G aA7, (FA7.binds (ps := ["_law_row_so", "_law_line_so"]) fun _ _ _ _ _ _ us hl => match us, hl with | [_, _], _ => rfl)⟩
  have AA8 : At K mg "_law_host" sHost ["_law_line_so"] fA8 _ := ⟨FA8, PySem.W.mg_of X G aA8, (FA8.binds (ps := ["_law_line_so"]) fun _ _ _ _ _ _ us hl => match us, hl with | [_], _ => rfl)⟩
  have AA9 : At K mg "_law_fresh" sFresh ["_law_tags_here", "_law_many_so"] fA9 _ := ⟨FA9, PySem.W.mg_of X G aA9, (FA9.binds (ps := ["_law_tags_here", "_law_many_so"]) fun _ _ _ _ _ _ us hl => match us, hl with | [_, _], _ => rfl)⟩
  have AAa : At K mg "_law_word" sWord ["_law_line_so"] fAa _ := ⟨FAa, PySem.W.mg_of X G aAa, (FAa.binds (ps := ["_law_line_so"]) fun _ _ _ _ _ _ us hl => match us, hl with | [_], _ => rfl)⟩
  have AAs : At K mg "_law_same" sSame ["_law_got", "_law_goal"] fAs _ := ⟨FAs, PySem.W.mg_of X G aAs, (FAs.binds (ps := ["_law_got", "_law_goal"]) fun _ _ _ _ _ _ us hl => match us, hl with | [_, _], _ => rfl)⟩
  have AAb : At K mg "_law_box" sBox ["_law_script", "_law_k"] fAb _ := ⟨FAb, PySem.W.mg_of X G aAb, (FAb.binds (ps := ["_law_script", "_law_k"]) fun _ _ _ _ _ _ us hl => match us, hl with | [_, _], _ => rfl)⟩
  have AAc : At K mg "_law_cells" sCells ["_law_script", "_law_top"] fAc _ := ⟨FAc, PySem.W.mg_of X G aAc, (FAc.binds (ps := ["_law_script", "_law_top"]) fun _ _ _ _ _ _ us hl => match us, hl with | [_, _], _ => rfl)⟩
  have AAh : At K mg "_law_by_hand_right" sHand [] fAh _ := ⟨FAh, PySem.W.mg_of X G aAh, (FAh.binds (ps := []) fun _ _ _ _ _ _ us hl => match us, hl with | [], _ => rfl)⟩
  have AAr : At K mg "_law_right" sRight ["_law_urn"] fAr _ := ⟨FAr, PySem.W.mg_of X G aAr, (FAr.binds (ps := ["_law_urn"]) fun _ _ _ _ _ _ us hl => match us, hl with | [_], _ => rfl)⟩
  have MmI : AtM K "__init__" "Step.__init__" sStepI ["self", "kind", "what"] fmI _ := ⟨FmI, (FmI.binds (ps := ["self", "kind", "what"]) fun _ _ _ _ _ _ us hl => match us, hl with | [_, _, _], _ => rfl)⟩
  have ZmI : Mk K C0 fmI := ⟨mkC0, amI, imI, kcC0⟩
  have MmO : AtM K "of" "Step.of" sStepO ["text"] fmO _ := ⟨FmO, (FmO.binds (ps := ["text"]) fun _ _ _ _ _ _ us hl => match us, hl with | [_], _ => rfl)⟩
  have ZmO : SMet K C0 (.type "type") "of" pmO fmO := ⟨amO, ⟨_, rmO⟩, kmO⟩
  have MmK : AtM K "kind" "Step.kind" sStepK ["self"] fmK _ := ⟨FmK, (FmK.binds (ps := ["self"]) fun _ _ _ _ _ _ us hl => match us, hl with | [_], _ => rfl)⟩
  have ZmK : PropOf K C0 "kind" pmK fmK := ⟨amK, gmK, tmK, ⟨_, rmK⟩⟩
  have MmW : AtM K "what" "Step.what" sStepW ["self"] fmW _ := ⟨FmW, (FmW.binds (ps := ["self"]) fun _ _ _ _ _ _ us hl => match us, hl with | [_], _ => rfl)⟩
  have ZmW : PropOf K C0 "what" pmW fmW := ⟨amW, gmW, tmW, ⟨_, rmW⟩⟩
  have MmC : AtM K "__call__" "Step.__call__" sStepC ["self", "row"] fmC _ := ⟨FmC, (FmC.binds (ps := ["self", "row"]) fun _ _ _ _ _ _ us hl => match us, hl with | [_, _], _ => rfl)⟩
  have ZmC : StX.CallO K C0 fmC := ⟨amC, imC, jmC⟩
  have BrI := FrI.binds1 (ps := ["self", "steps"]) 2 1 (by simp) rfl fun T kV doc pm an cdv ct us its h1 h2 => match us, its, h1, h2 with | [x, y], [z], _, _ => ⟨_, rfl, rfl⟩
  have DrI := FrI.binds1 (ps := ["self", "steps"]) 1 0 (by simp) rfl fun T kV doc pm an cdv ct us its h1 h2 => match us, its, h1, h2 with | [x], [z], _, _ => ⟨_, rfl, rfl⟩
  have MrI : AtD K "__init__" "Rule.__init__" sRuleI ["self", "steps"] [V.ref Cl.e0] frI _ := ⟨FrI, (by obtain ⟨ds, r, h⟩ := BrI; cases r; exact h), DrI⟩
  have ZrI : Mk K C1 frI := ⟨mkC1, arI, irI, kcC1⟩
  have MrO : AtM K "of" "Rule.of" sRuleO ["text"] frO _ := ⟨FrO, (FrO.binds (ps := ["text"]) fun _ _ _ _ _ _ us hl => match us, hl with | [_], _ => rfl)⟩
  have ZrO : SMet K C1 (.type "type") "of" prO frO := ⟨arO, ⟨_, rrO⟩, krO⟩
  have MrC : AtM K "__call__" "Rule.__call__" sRuleC ["self", "row"] frC _ := ⟨FrC, (FrC.binds (ps := ["self", "row"]) fun _ _ _ _ _ _ us hl => match us, hl with | [_, _], _ => rfl)⟩
  have ZrC : StX.CallO K C1 frC := ⟨arC, irC, jrC⟩
  have ZrS : OpO K C1 (PySem.dunder "rshift") frS := ⟨arS, irS, srS⟩
  have MrS : AtM K "__rshift__" "Rule.__rshift__" sRuleS ["self", "other"] frS _ := ⟨FrS, (FrS.binds (ps := ["self", "other"]) fun _ _ _ _ _ _ us hl => match us, hl with | [_, _], _ => rfl)⟩
  have DC0 : Cls K C0 := ⟨pgC0, hdC0, poC0, saC0⟩
  have EC0 : ClX.CRead K C0 (.type "type") := ⟨rdC0, gaC0⟩
  have NC0 := PySem.W.mg_of X G aCC0
  have DC1 : Cls K C1 := ⟨pgC1, hdC1, poC1, saC1⟩
  have EC1 : ClX.CRead K C1 (.type "type") := ⟨rdC1, gaC1⟩
  have NC1 := PySem.W.mg_of X G aCC1
  have k0C1 : PySem.W.kitOne K (.ref C1) (.ref C0) = some false := kit_own e0C1 hdC0 t0C1 m0C1
  have k1C1 : PySem.W.kitOne K (.ref C1) (.ref C1) = some true := kit_self
  let R : RowsF K mg := ⟨fn1, fn2, fn3, fn4, fn5, fn6, fn7, fn8, fn9, _, _, _, _, _, _, _, _, _, An1, An2, An3, An4, An5, An6, An7, An8, An9⟩
  let S : StepC K mg := ⟨.type "type", pmO, pmK, pmW, fmI, fmO, fmK, fmW, fmC, _, _, _, _, _, EC0, DC0, n0C0, n1C0, rfl, NC0, ZmI, MmI, ZmO, MmO, ZmK, MmK, ZmW, MmW, ZmC, MmC⟩
  have hez : Ez K := ⟨_, _, lE, rfl, rfl⟩
  let RC : RuleC K mg := ⟨.type "type", prO, frI, frO, frC, frS, fnb, _, _, _, _, _, hez, EC1, DC1, n0C1, rfl, NC1, ZrI, MrI, ZrO, MrO, ZrC, MrC, ZrS, MrS, ⟨DC1, jaC1, jn, jt, jmC1, k0C1⟩, ⟨DC1, jaC1, jn, jt, jmC1, k1C1⟩, Anb⟩
  exact ⟨PySem.W.fnOf "law" "law" (defArgs sLaw) (defBody sLaw) (defScope sLaw) .none kVAl dcAl pmAl anAl cdAl ctAl, fun s v => .of_eq rfl, fun base _ _ => ok_law FAl T R S RC AA1 AA2 AA3 AA4 AA5 AA6 AA7 AA8 AA9 AAa AAs AAb AAc AAh AAr⟩
theorem walk {l : PySem.W.OpenLaw} {q : Program} {loose : List Str} {XP : (Str → Option Value) → Heap → Prop} {YP : World → Heap → Prop} {d : DefRec} {K : Params → PySem.W.Frag} (hn : l.most = some 63) (hdf : d.params.defaults = [])
    (hY : ∀ (w : World) (h : Heap), YP w h → (K w.params).In h)
    (F : ∀ (w : World) (mg : Str → Option Value) (fa : Addr) (h : Heap), (K w.params).In h → h.Ns mainGlobals mg → mg d.name = some (.ref fa) →
      ∃ fd : FuncData, (∀ (s : Shared) (u : Value), BindsTo s fd ⟨[u], []⟩ [("_law_script", u)]) ∧ ∀ base : Heap, (K w.params).In base → base.Ns mainGlobals mg → FnOk l.prog w (K w.params) mg base CX0 8 fa fd ["_law_script"] (spLaw (K w.params))) :
    PySem.W.WalkO q loose XP YP l.row.toRowW d [] (fun f vs => PySem.call f vs) :=
  L2.walk_of (n := 63) (k := 8) (x := "_law_script") (CX := fun _ => CX0) (sp := fun w => spLaw (K w.params)) hn (by decide) hdf ⟨rfl, by decide, by decide⟩ hY F (fun _ _ a ns hl _ hS => ⟨a, ns, rfl, hS, hl, fun _ => rfl⟩) fun _ _ _ _ _ z => z
end TC
open PySem PySem.W PyProof.Rows
set_option maxRecDepth 100000 in
set_option maxHeartbeats 0 in
theorem PySem.Challenge.cw_touchcaps_k07_what_rules_make_holds : PySem.Challenge.rw_touchcaps_k07_what_rules_make.Holds := by
  w_on; o_law; k_head; (case hw => w_witness2)
  k_fill
  refine TC.walk (l := PySem.Challenge.rw_touchcaps_k07_what_rules_make) rfl rfl (fun w h Y => PySem.W.kIn_of Y) ?F
  case F =>
    intro w mg fa h KX G hmg
    refine' TC.all_mk KX G hmg ?an1 ?ln1 ?cn1 ?kn1 ?an2 ?ln2 ?cn2 ?kn2 ?an3 ?ln3 ?cn3 ?kn3 ?an4 ?ln4 ?cn4 ?kn4 ?an5 ?ln5 ?cn5 ?kn5 ?an6 ?ln6 ?cn6 ?kn6 ?an7 ?ln7 ?cn7 ?kn7 ?an8 ?ln8 ?cn8 ?kn8 ?an9 ?ln9 ?cn9 ?kn9 ?anb ?lnb ?cnb ?knb ?aA1 ?lA1 ?cA1 ?kA1 ?aA2 ?lA2 ?cA2 ?kA2 ?aA3 ?lA3 ?cA3 ?kA3 ?aA4 ?lA4 ?cA4 ?kA4 ?aA5 ?lA5 ?cA5 ?kA5 ?aA6 ?lA6 ?cA6 ?kA6 ?aA7 ?lA7 ?cA7 ?kA7 ?aA8 ?lA8 ?cA8 ?kA8 ?aA9 ?lA9 ?cA9 ?kA9 ?aAa ?lAa ?cAa ?kAa ?aAs ?lAs ?cAs ?kAs ?aAb ?lAb ?cAb ?kAb ?aAc ?lAc ?cAc ?kAc ?aAh ?lAh ?cAh ?kAh ?aAr ?lAr ?cAr ?kAr ?aAl ?lAl ?cAl ?kAl ?aCC0 ?pgC0 ?hdC0 ?poC0 ?saC0 ?mkC0 ?kcC0 ?rdC0 ?gaC0 ?n0C0 ?n1C0 ?aCC1 ?pgC1 ?hdC1 ?poC1 ?saC1 ?mkC1 ?kcC1 ?rdC1 ?gaC1 ?jaC1 ?jmC1 ?e0C1 ?m0C1 ?t0C1 ?n0C1 ?amI ?imI ?lmI ?cmI ?kmI ?amO ?rmO ?lmO ?cmO ?kmO ?amK ?gmK ?tmK ?rmK ?lmK ?cmK ?kmK ?amW ?gmW ?tmW ?rmW ?lmW ?cmW ?kmW ?amC ?imC ?jmC ?lmC ?cmC ?kmC ?arI ?irI ?lrI ?crI ?krI ?drI ?arO ?rrO ?lrO ?crO ?krO ?arC ?irC ?jrC ?lrC ?crC ?krC ?arS ?irS ?srS ?lrS ?crS ?krS ?lE ?jn ?jt ?ztuple ?zlist ?zint ?zlen ?zabs ?zall ?zmax ?zrange ?zzip ?zenumerate ?zisinstance ?zbool ?zstr ?zsorted ?zset ?zmin
    (case an1 => k_is)
    (case ln1 => k_is)
    (case cn1 => k_is)
    (case kn1 => k_is)
    (case an2 => k_is)
    (case ln2 => k_is)
    (case cn2 => k_is)
    (case kn2 => k_is)
    (case an3 => k_is)
    (case ln3 => k_is)
    (case cn3 => k_is)
    (case kn3 => k_is)
    (case an4 => k_is)
    (case ln4 => k_is)
    (case cn4 => k_is)
    (case kn4 => k_is)
    (case an5 => k_is)
    (case ln5 => k_is)
    (case cn5 => k_is)
    (case kn5 => k_is)
    (case an6 => k_is)
    (case ln6 => k_is)
    (case cn6 => k_is)
    (case kn6 => k_is)
    (case an7 => k_is)
    (case ln7 => k_is)
    (case cn7 => k_is)
    (case kn7 => k_is)
    (case an8 => k_is)
    (case ln8 => k_is)
    (case cn8 => k_is)
    (case kn8 => k_is)
    (case an9 => k_is)
    (case ln9 => k_is)
    (case cn9 => k_is)
    (case kn9 => k_is)
    (case anb => k_is)
    (case lnb => k_is)
    (case cnb => k_is)
    (case knb => k_is)
    (case aA1 => k_is)
    (case lA1 => k_is)
    (case cA1 => k_is)
    (case kA1 => k_is)
    (case aA2 => k_is)
    (case lA2 => k_is)
    (case cA2 => k_is)
    (case kA2 => k_is)
    (case aA3 => k_is)
    (case lA3 => k_is)
    (case cA3 => k_is)
    (case kA3 => k_is)
    (case aA4 => k_is)
    (case lA4 => k_is)
    (case cA4 => k_is)
    (case kA4 => k_is)
    (case aA5 => k_is)
    (case lA5 => k_is)
    (case cA5 => k_is)
    (case kA5 => k_is)
    (case aA6 => k_is)
    (case lA6 => k_is)
    (case cA6 => k_is)
    (case kA6 => k_is)
    (case aA7 => k_is)
    (case lA7 => k_is)
    (case cA7 => k_is)
    (case kA7 => k_is)
    (case aA8 => k_is)
    (case lA8 => k_is)
    (case cA8 => k_is)
    (case kA8 => k_is)
    (case aA9 => k_is)
    (case lA9 => k_is)
    (case cA9 => k_is)
    (case kA9 => k_is)
    (case aAa => k_is)
    (case lAa => k_is)
    (case cAa => k_is)
    (case kAa => k_is)
    (case aAs => k_is)
    (case lAs => k_is)
    (case cAs => k_is)
    (case kAs => k_is)
    (case aAb => k_is)
    (case lAb => k_is)
    (case cAb => k_is)
    (case kAb => k_is)
    (case aAc => k_is)
    (case lAc => k_is)
    (case cAc => k_is)
    (case kAc => k_is)
    (case aAh => k_is)
    (case lAh => k_is)
    (case cAh => k_is)
    (case kAh => k_is)
    (case aAr => k_is)
    (case lAr => k_is)
    (case cAr => k_is)
    (case kAr => k_is)
    (case aAl => k_is)
    (case lAl => k_is)
    (case cAl => k_is)
    (case kAl => k_is)
    (case aCC0 => k_is)
    (case pgC0 => k_is)
    (case hdC0 => k_is)
    (case poC0 => k_is)
    (case saC0 => k_is)
    (case mkC0 => k_is)
    (case kcC0 => k_is)
    (case rdC0 => k_is)
    (case gaC0 => k_is)
    (case n0C0 => k_is)
    (case n1C0 => k_is)
    (case aCC1 => k_is)
    (case pgC1 => k_is)
    (case hdC1 => k_is)
    (case poC1 => k_is)
    (case saC1 => k_is)
    (case mkC1 => k_is)
    (case kcC1 => k_is)
    (case rdC1 => k_is)
    (case gaC1 => k_is)
    (case jaC1 => k_is)
    (case jmC1 => k_is)
    (case e0C1 => first | rfl | decide | k_is)
    (case m0C1 => k_is)
    (case t0C1 => k_is)
    (case n0C1 => k_is)
    (case amI => k_is)
    (case imI => k_is)
    (case lmI => k_is)
    (case cmI => k_is)
    (case kmI => k_is)
    (case amO => k_is)
    (case rmO => k_is)
    (case lmO => k_is)
    (case cmO => k_is)
    (case kmO => k_is)
    (case amK => k_is)
    (case gmK => k_is)
    (case tmK => k_is)
    (case rmK => k_is)
    (case lmK => k_is)
    (case cmK => k_is)
    (case kmK => k_is)
    (case amW => k_is)
    (case gmW => k_is)
    (case tmW => k_is)
    (case rmW => k_is)
    (case lmW => k_is)
    (case cmW => k_is)
    (case kmW => k_is)
    (case amC => k_is)
    (case imC => k_is)
    (case jmC => k_is)
    (case lmC => k_is)
    (case cmC => k_is)
    (case kmC => k_is)
    (case arI => k_is)
    (case irI => k_is)
    (case lrI => k_is)
    (case crI => k_is)
    (case krI => k_is)
    (case drI => k_is)
    (case arO => k_is)
    (case rrO => k_is)
    (case lrO => k_is)
    (case crO => k_is)
    (case krO => k_is)
    (case arC => k_is)
    (case irC => k_is)
    (case jrC => k_is)
    (case lrC => k_is)
    (case crC => k_is)
    (case krC => k_is)
    (case arS => k_is)
    (case irS => k_is)
    (case srS => k_is)
    (case lrS => k_is)
    (case crS => k_is)
    (case krS => k_is)
    (case lE => k_is)
    (case jn => k_is)
    (case jt => k_is)
    (case ztuple => k_is)
    (case zlist => k_is)
    (case zint => k_is)
    (case zlen => k_is)
    (case zabs => k_is)
    (case zall => k_is)
    (case zmax => k_is)
    (case zrange => k_is)
    (case zzip => k_is)
    (case zenumerate => k_is)
    (case zisinstance => k_is)
    (case zbool => k_is)
    (case zstr => k_is)
    (case zsorted => k_is)
    (case zset => k_is)
    (case zmin => k_is)
