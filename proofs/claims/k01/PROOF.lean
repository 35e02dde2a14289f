import PyProof.Rows.All
import Wide.All
import OpenK.AllK
import Wide.FinOn
import HandS.ForMost
import HandS.IsInst
import HandS.TupLe
import HandS.TupAny
import HandS.Walk
import HandS.Flow
import HandS.Codes
import HandS.More
import HandS.Evl
import PySem.Challenge.RW_newnames_k01_names
set_option Elab.async false
set_option linter.all false
set_option maxRecDepth 100000
set_option maxHeartbeats 4000000
namespace Nn
open PySem PySem.Spec PyProof.Rows L2

/-! ### the ledger: what a def's body knows of the heap -/
/-- M: addresses of the entry's heap H0 that the body may change; L: objects known now (new ones, and those of M); T: objects made since, that never change -/
structure At (M : List Addr) (H0 H : Hp) (L T : List (Addr × HO)) : Prop where
  base : ∀ a o, H0 a = some o → a ∉ M → H a = some o
  nd : (L.map Prod.fst).Nodup
  mem : ∀ e ∈ L, H e.1 = some e.2
  own : ∀ e ∈ L, H0 e.1 = none ∨ e.1 ∈ M
  mL : ∀ a ∈ M, a ∈ L.map Prod.fst
  tm : ∀ e ∈ T, H e.1 = some e.2
  td : ∀ e ∈ T, e.1 ∉ L.map Prod.fst
  tn : ∀ e ∈ T, H0 e.1 = none

/-- all but what stands in N is kept -/
def Kp (N : List Addr) (H H' : Hp) : Prop := ∀ a o, H a = some o → a ∉ N → H' a = some o
theorem Kp.refl {N : List Addr} (H : Hp) : Kp N H H := fun _ _ h _ => h
theorem Kp.same {H H' : Hp} (k : Kp [] H H') : Same H H' := fun a o h => k a o h (by simp)
theorem Kp.of {H H' : Hp} (k : Same H H') : Kp [] H H' := fun a o h _ => k a o h
theorem Kp.seq {K : PySem.W.Frag} {N : List Addr} {H H' : Hp} {a : Addr} {xs : List V} (k : Kp N H H') (h : SqL K H a xs) (hn : a ∉ N) : SqL K H' a xs := by
  rcases h with (h | ⟨o, h⟩) | h
  · exact .inl (.inl (k _ _ h hn))
  · exact .inl (.inr ⟨o, k _ _ h hn⟩)
  · exact .inr h
theorem Kp.sqt {K : PySem.W.Frag} {N : List Addr} {H H' : Hp} {a : Addr} {xs : List V} (k : Kp N H H') (h : SqT K H a xs) (hn : a ∉ N) : SqT K H' a xs := by
  rcases h with (h | ⟨o, h⟩) | h
  · exact .inl (.inl (k _ _ h hn))
  · exact .inl (.inr ⟨o, k _ _ h hn⟩)
  · exact .inr h
/-- one new object, not looked at again -/
def Sk (H H' : Hp) : Prop := H' = H ∨ ∃ p o, H p = none ∧ H' = upd H p o
theorem Sk.of {H : Hp} {p : Addr} {o : HO} (h : H p = none) : Sk H (upd H p o) := .inr ⟨p, o, h, rfl⟩
theorem Sk.rf {H : Hp} : Sk H H := .inl rfl

section
variable {M : List Addr} {H0 H H' : Hp} {L L' T N : List (Addr × HO)} {p : Addr} {o o' : HO} {i : Nat}
theorem At.nil (H : Hp) : At [] H H [] [] := ⟨fun _ _ h _ => h, List.nodup_nil, by simp, by simp, by simp, by simp, by simp, by simp⟩
theorem At.one (h : H p = some o) : At [p] H H [(p, o)] [] := ⟨fun _ _ h _ => h, by simp, by simpa using h, by simp, by simp, by simp, by simp, by simp⟩
theorem At.in (A : At M H0 H L T) (h : L[i]? = some (p, o)) : H p = some o := A.mem _ (List.mem_of_getElem? h)
theorem At.get (A : At M H0 H L T) (i : Nat) (h : L[i]? = some (p, o)) : H p = some o := A.in h
theorem At.keep (A : At M H0 H L T) : Kp M H0 H := A.base
theorem At.fresh (A : At M H0 H L T) (h : H p = none) : p ∉ L.map Prod.fst := fun hm => by
  obtain ⟨e, he, rfl⟩ := List.mem_map.mp hm
  rw [A.mem e he] at h
  cases h
theorem At.fresh0 (A : At M H0 H L T) (h : H p = none) : H0 p = none := by
  by_cases hM : p ∈ M
  · exact absurd (A.mL p hM) (A.fresh h)
  · cases e : H0 p with
    | none => rfl
    | some o =>
      rw [A.base p o e hM] at h
      cases h
theorem At.freshT (A : At M H0 H L T) (h : H p = none) : ∀ e ∈ T, e.1 ≠ p := fun e he q => by
  rw [← q, A.tm e he] at h
  cases h
/-- is new against the entry -/
theorem At.new0 (A : At M H0 H L T) (i : Nat) (h : L[i]? = some (p, o)) (hM : p ∉ M) : H0 p = none := (A.own _ (List.mem_of_getElem? h)).resolve_right hM
theorem At.skip (A : At M H0 H L T) (s : Sk H H') : At M H0 H' L T := by
  rcases s with rfl | ⟨p, o, h, rfl⟩
  · exact A
  · refine ⟨fun a u e hM => ?_, A.nd, fun e he => ?_, A.own, A.mL, fun e he => ?_, A.td, A.tn⟩
    · rw [upd_ne (ne_of_none (A.base a u e hM) h)]; exact A.base a u e hM
    · rw [upd_ne (ne_of_none (A.mem e he) h)]; exact A.mem e he
    · rw [upd_ne (ne_of_none (A.tm e he) h)]; exact A.tm e he
theorem At.snoc (A : At M H0 H L T) (h : H p = none) (o : HO) : At M H0 (upd H p o) (L ++ [(p, o)]) T := by
  have B := A.skip (Sk.of (o := o) h)
  have fr := A.fresh h
  refine ⟨B.base, ?_, ?_, ?_, ?_, B.tm, ?_, B.tn⟩
  · rw [List.map_append, List.nodup_append]
    refine ⟨A.nd, by simp, ?_⟩
    intro a ha b hb e
    rw [List.map_singleton, List.mem_singleton] at hb
    subst e; subst hb
    exact fr ha
  · intro e he
    rcases List.mem_append.mp he with he | he
    · exact B.mem e he
    · rw [List.mem_singleton] at he; subst he; exact upd_same
  · intro e he
    rcases List.mem_append.mp he with he | he
    · exact A.own e he
    · rw [List.mem_singleton] at he; subst he; exact .inl (A.fresh0 h)
  · intro a ha
    rw [List.map_append]
    exact List.mem_append_left _ (A.mL a ha)
  · intro e he
    rw [List.map_append, List.mem_append]
    rintro (q | q)
    · exact A.td e he q
    · rw [List.map_singleton, List.mem_singleton] at q; exact A.freshT h e he q
theorem At.snocT (A : At M H0 H L T) (h : H p = none) (o : HO) : At M H0 (upd H p o) L (T ++ [(p, o)]) := by
  have B := A.skip (Sk.of (o := o) h)
  refine ⟨B.base, A.nd, B.mem, A.own, A.mL, ?_, ?_, ?_⟩
  · intro e he
    rcases List.mem_append.mp he with he | he
    · exact B.tm e he
    · rw [List.mem_singleton] at he; subst he; exact upd_same
  · intro e he
    rcases List.mem_append.mp he with he | he
    · exact A.td e he
    · rw [List.mem_singleton] at he; subst he; exact A.fresh h
  · intro e he
    rcases List.mem_append.mp he with he | he
    · exact A.tn e he
    · rw [List.mem_singleton] at he; subst he; exact A.fresh0 h
theorem map_set_fst (L : List (Addr × HO)) (i : Nat) (h : L[i]? = some (p, o)) : (L.set i (p, o')).map Prod.fst = L.map Prod.fst := by
  rw [List.map_set]
  refine List.ext_getElem? fun j => ?_
  rw [List.getElem?_set]
  split
  · rename_i e
    subst e
    obtain ⟨hi, e1⟩ := List.getElem?_eq_some_iff.mp h
    rw [List.length_map, if_pos hi, List.getElem?_map, h]
    rfl
  · rfl
/-- what is known changes, the addresses stay -/
theorem At.chg (A : At M H0 H L T) {N : List Addr} (k : Kp N H H') (hN : ∀ a ∈ N, a ∈ L.map Prod.fst) (e : L'.map Prod.fst = L.map Prod.fst) (hm : ∀ e ∈ L', H' e.1 = some e.2) (hNM : ∀ a ∈ N, H0 a = none ∨ a ∈ M) : At M H0 H' L' T := by
  refine ⟨fun a u q hM => k a u (A.base a u q hM) fun hn => ?_, e ▸ A.nd, hm, fun x hx => ?_, fun a ha => e ▸ A.mL a ha, fun x hx => k _ _ (A.tm x hx) fun hn => A.td x hx (hN _ hn), fun x hx => e ▸ A.td x hx, A.tn⟩
  · rcases hNM a hn with z | z
    · rw [q] at z; cases z
    · exact hM z
  · have : x.1 ∈ L.map Prod.fst := e ▸ List.mem_map_of_mem (f := Prod.fst) hx
    obtain ⟨y, hy, ey⟩ := List.mem_map.mp this
    rw [← ey]
    exact A.own y hy
theorem mem_set_cases {x : Addr × HO} (h : L[i]? = some (p, o)) (nd : (L.map Prod.fst).Nodup) (hx : x ∈ L.set i (p, o')) : x = (p, o') ∨ (x ∈ L ∧ x.1 ≠ p) := by
  obtain ⟨j, hj⟩ := List.getElem?_of_mem hx
  rw [List.getElem?_set] at hj
  split at hj
  · split at hj
    · exact .inl (Option.some.inj hj).symm
    · cases hj
  · rename_i ne
    refine .inr ⟨List.mem_of_getElem? hj, fun q => ne ?_⟩
    have a1 : (L.map Prod.fst)[i]? = some p := by rw [List.getElem?_map, h]; rfl
    have a2 : (L.map Prod.fst)[j]? = some p := by rw [List.getElem?_map, hj]; exact congrArg some q
    exact nd_ix nd a1 a2
/-- a callee changed the object at place i alone -/
theorem At.c1 (A : At M H0 H L T) (i : Nat) (h : L[i]? = some (p, o)) (k : Kp [p] H H') (hp : H' p = some o') : At M H0 H' (L.set i (p, o')) T := by
  have hm : p ∈ L.map Prod.fst := List.mem_map_of_mem (f := Prod.fst) (List.mem_of_getElem? h)
  refine A.chg k (fun a ha => by rw [List.mem_singleton] at ha; exact ha ▸ hm) (map_set_fst L i h) (fun x hx => ?_) (fun a ha => by rw [List.mem_singleton] at ha; subst ha; exact A.own _ (List.mem_of_getElem? h))
  rcases mem_set_cases h A.nd hx with rfl | ⟨hx, ne⟩
  · exact hp
  · exact k _ _ (A.mem x hx) (by rw [List.mem_singleton]; exact ne)
theorem At.c0 (A : At M H0 H L T) (k : Kp [] H H') : At M H0 H' L T := A.chg k (by simp) rfl (fun x hx => k _ _ (A.mem x hx) (by simp)) (by simp)
theorem At.set (A : At M H0 H L T) (i : Nat) (h : L[i]? = some (p, o)) (o' : HO) : At M H0 (upd H p o') (L.set i (p, o')) T :=
  A.c1 i h (fun a u e hn => by rw [upd_ne (by simpa using hn)]; exact e) upd_same
/-- a callee made the object at p -/
theorem At.add (A : At M H0 H L T) (A' : At M H0 H' L' T) (e : L'.map Prod.fst = L.map Prod.fst) (h : H p = none) (hp : H' p = some o) : At M H0 H' (L' ++ [(p, o)]) T := by
  have fr := A.fresh h
  refine ⟨A'.base, ?_, ?_, ?_, ?_, A'.tm, ?_, A'.tn⟩
  · rw [List.map_append, List.nodup_append]
    refine ⟨A'.nd, by simp, ?_⟩
    intro a ha b hb q
    rw [List.map_singleton, List.mem_singleton] at hb
    subst q; subst hb
    exact fr (e ▸ ha)
  · intro x he
    rcases List.mem_append.mp he with he | he
    · exact A'.mem x he
    · rw [List.mem_singleton] at he; subst he; exact hp
  · intro x he
    rcases List.mem_append.mp he with he | he
    · exact A'.own x he
    · rw [List.mem_singleton] at he; subst he; exact .inl (A.fresh0 h)
  · intro a ha
    rw [List.map_append]
    exact List.mem_append_left _ (A'.mL a ha)
  · intro x he
    rw [List.map_append, List.mem_append]
    rintro (q | q)
    · exact A'.td x he q
    · rw [List.map_singleton, List.mem_singleton] at q; exact A.freshT h x he q
theorem At.addT (A : At M H0 H L T) (A' : At M H0 H' L' T) (e : L'.map Prod.fst = L.map Prod.fst) (N : List (Addr × HO)) (h : ∀ x ∈ N, H x.1 = none ∧ H' x.1 = some x.2) : At M H0 H' L' (T ++ N) := by
  refine ⟨A'.base, A'.nd, A'.mem, A'.own, A'.mL, ?_, ?_, ?_⟩
  · intro x he
    rcases List.mem_append.mp he with he | he
    · exact A'.tm x he
    · exact (h x he).2
  · intro x he
    rcases List.mem_append.mp he with he | he
    · exact A'.td x he
    · rw [e]; exact A.fresh (h x he).1
  · intro x he
    rcases List.mem_append.mp he with he | he
    · exact A'.tn x he
    · exact A.fresh0 (h x he).1
/-- the later entries forgotten -/
theorem At.take (A : At M H0 H L T) (n : Nat) (hM : ∀ a ∈ M, a ∈ (L.take n).map Prod.fst) : At M H0 H (L.take n) T :=
  ⟨A.base, A.nd.sublist ((List.take_sublist n L).map _), fun e he => A.mem e (List.mem_of_mem_take he), fun e he => A.own e (List.mem_of_mem_take he), hM, A.tm,
    fun e he q => A.td e he (((List.take_sublist n L).map _).subset q), A.tn⟩
theorem At.sub (A : At M H0 H L T) (hs : List.Sublist L' L) (hM : ∀ a ∈ M, a ∈ L'.map Prod.fst) : At M H0 H L' T :=
  ⟨A.base, A.nd.sublist (hs.map _), fun e he => A.mem e (hs.subset he), fun e he => A.own e (hs.subset he), hM, A.tm, fun e he q => A.td e he ((hs.map _).subset q), A.tn⟩
theorem At.lst {K : PySem.W.Frag} {xs : List V} (A : At M H0 H L T) (i : Nat) (h : L[i]? = some (p, .lst xs)) : SqL K H p xs := .inl (.inl (A.in h))
theorem At.tup {K : PySem.W.Frag} {xs : List V} (A : At M H0 H L T) (i : Nat) (h : L[i]? = some (p, .tup xs)) : SqT K H p xs := .inl (.inl (A.in h))
theorem At.sq {K : PySem.W.Frag} {xs : List V} (A : At M H0 H L T) (h : SqL K H0 p xs) (hM : p ∉ M) : SqL K H p xs := A.keep.seq h hM
theorem At.st {K : PySem.W.Frag} {xs : List V} (A : At M H0 H L T) (h : SqT K H0 p xs) (hM : p ∉ M) : SqT K H p xs := A.keep.sqt h hM
theorem At.ne (A : At M H0 H L T) {q : Addr} {u : HO} (i j : Nat) (h : L[i]? = some (p, o)) (h' : L[j]? = some (q, u)) (hij : i ≠ j) : p ≠ q := fun e => by
  subst e
  exact hij (nd_ix A.nd (x := p) (by rw [List.getElem?_map, h]; rfl) (by rw [List.getElem?_map, h']; rfl))
end

/-! the changed heap as a letter: the reading behind it is f of the heap (u: a new object; s: an object set; t: a new object that stays; n: a new one not looked at) -/
section
variable {M : List Addr} {H0 H : Hp} {L T : List (Addr × HO)} {p : Addr} {o o' : HO} {α β : Sort _} {f1 : Hp → Prop} {f2 : Hp → α → Prop} {f3 : Hp → α → β → Prop} {q : α} {r : β}
theorem At.u1 (A : At M H0 H L T) (h : H p = none) (k : ∀ H', At M H0 H' (L ++ [(p, o)]) T → f1 H') : f1 (upd H p o) := k _ (A.snoc h o)
theorem At.u2 (A : At M H0 H L T) (h : H p = none) (k : ∀ H', At M H0 H' (L ++ [(p, o)]) T → f2 H' q) : f2 (upd H p o) q := k _ (A.snoc h o)
theorem At.s1 (A : At M H0 H L T) (i : Nat) (h : L[i]? = some (p, o)) (k : ∀ H', At M H0 H' (L.set i (p, o')) T → f1 H') : f1 (upd H p o') := k _ (A.set i h o')
theorem At.s2 (A : At M H0 H L T) (i : Nat) (h : L[i]? = some (p, o)) (k : ∀ H', At M H0 H' (L.set i (p, o')) T → f2 H' q) : f2 (upd H p o') q := k _ (A.set i h o')
theorem At.t1 (A : At M H0 H L T) (h : H p = none) (k : ∀ H', At M H0 H' L (T ++ [(p, o)]) → f1 H') : f1 (upd H p o) := k _ (A.snocT h o)
theorem At.t2 (A : At M H0 H L T) (h : H p = none) (k : ∀ H', At M H0 H' L (T ++ [(p, o)]) → f2 H' q) : f2 (upd H p o) q := k _ (A.snocT h o)
theorem At.n1 (A : At M H0 H L T) (h : H p = none) (k : ∀ H', At M H0 H' L T → f1 H') : f1 (upd H p o) := k _ (A.skip (Sk.of h))
theorem At.n2 (A : At M H0 H L T) (h : H p = none) (k : ∀ H', At M H0 H' L T → f2 H' q) : f2 (upd H p o) q := k _ (A.skip (Sk.of h))
end
/-! ### calls of the text's own defs -/
structure Cl (P : Program) (w : World) (K : PySem.W.Frag) (mg : Str → Option Value) (base : Heap) (k : Nat) (x : Str) (sp : Sp) : Prop where
  ex : ∃ (f : Addr) (fd : FuncData) (ps : List Str), FnOk P w K mg base CX0 k f fd ps sp ∧ mg x = some (.ref f) ∧ PySem.W.keepIn K (.ref f) = true ∧ Binds K fd ps []
section
variable {X : Cx} {k j : Nat} {x : Str} {sp : Sp} {p pos : Pos} {e : Expr} {es : List Expr} {t : TA}
theorem pe_cl (c : Cl X.prog X.w X.K X.mg X.base k x sp) (hr : Room j X.A) (hk : k ≤ j) (hg : Gl X x) (ha : PA X (e :: es) t)
    (hdb : (x == ("__debug__" : Str)) = false := by decide) (he : starEach (e :: es) X.env = (false, eval e X.env) :: starEach es X.env := by rfl) (hpl : (backTo pos (starEach es X.env)).any (·.1) = false := by rfl) :
    PE X (.Call (.Name x p) (e :: es) [] pos) (tCall sp [] E0 t) := by
  obtain ⟨f, fd, ps, F, hm, kp, b⟩ := c.ex
  exact pe_call F (hr.mono hk) hg hm kp b .nil pass0 ha hdb he hpl
end

section
variable {X : Cx} {x : Str} {pos : Pos}
theorem pe_ty {T : String} (hg : Gl X x) (hm : X.mg x = none) (hv : bootBuiltins x = some (.type T)) (hn : x ≠ "__name__" := by decide) (hd : (x == ("__debug__" : Str)) = false := by decide) : PE X (.Name x pos) (tC (.ty T)) := pe_bltn hg hm hv rfl hn hd
theorem pe_gint {i : Int} (hg : Gl X x) (h : ∃ t, X.mg x = some (.int i t)) (hd : (x == ("__debug__" : Str)) = false := by decide) : PE X (.Name x pos) (tC (.int i)) := by
  obtain ⟨t, h⟩ := h
  exact pe_glob hg h ⟨t, rfl⟩ hd
theorem pe_gref {a : Addr} (hg : Gl X x) (h : X.mg x = some (.ref a)) (hd : (x == ("__debug__" : Str)) = false := by decide) : PE X (.Name x pos) (tC (.ref a)) := pe_glob hg h rfl hd
end
/-! ### readings, one step each -/
section
variable {σ : L2.St} {H : Hp} {Q : VK} {ta tb tc te : TE} {r r' : R2} {v x y : V} {K : PySem.W.Frag} {g : TG} {t u : TS} {c c' : TT} {n bk ct : L2.St → Hp → Prop} {rt : VK} {QT : Bool → Hp → Prop} {QA : List V → Hp → Prop} {tr : TA}
theorem rd_var {i : Nat} (h : σ[i]? = some (some v)) (k : Q v H) : tVar i σ H Q := ⟨v, h, k⟩
theorem rd_c (k : Q v H) : tC v σ H Q := k
theorem rd_op (k : ta σ H fun x H1 => tb σ H1 fun y H2 => r x y H2 Q) : tOp r ta tb σ H Q := k
theorem rd_un {r : V → Hp → VK → Prop} (k : ta σ H fun x H1 => r x H1 Q) : tUn r ta σ H Q := k
theorem rd_I0 {f : Int → Int → V} {i j : Int} (k : Q (f i j) H) : rI0 f (.int i) (.int j) H Q := ⟨i, j, rfl, rfl, k⟩
theorem rd_I {C : Int → Int → Prop} {f : Int → Int → V} {i j : Int} (c : C i j) (k : Q (f i j) H) : rI C f (.int i) (.int j) H Q := ⟨i, j, rfl, rfl, c, k⟩
theorem rd_mul {i j : Int} (c : CMul i j) (k : Q (.int (i * j)) H) : rI CMul (fun i j => .int (i * j)) (.int i) (.int j) H Q := ⟨i, j, rfl, rfl, c, k⟩
theorem rd_mod {i j : Int} (c : 0 < j) (k : Q (.int (i % j)) H) : rI (fun _ j => 0 < j) (fun i j => .int (i % j)) (.int i) (.int j) H Q := ⟨i, j, rfl, rfl, c, k⟩
theorem rd_fdiv {i j : Int} (c : CDiv i j) (k : Q (.int (i / j)) H) : rI CDiv (fun i j => .int (i / j)) (.int i) (.int j) H Q := ⟨i, j, rfl, rfl, c, k⟩
theorem rd_pow {i j : Int} (c : CPow i j) (k : Q (.int (i ^ j.toNat)) H) : rI CPow (fun i j => .int (i ^ j.toNat)) (.int i) (.int j) H Q := ⟨i, j, rfl, rfl, c, k⟩
theorem rd_U {f : Int → V} {i : Int} (k : Q (f i) H) : rU f (.int i) H Q := ⟨i, rfl, k⟩
theorem rd_eq (h : scal x y = true) (k : Q (.bl (decide (x = y))) H) : rEq x y H Q := ⟨h, k⟩
theorem rd_ne (h : scal x y = true) (k : Q (.bl (!decide (x = y))) H) : rNe x y H Q := ⟨h, k⟩
theorem rd_test (k : te σ H fun x H' => ∃ k, x = .bl k ∧ QT k H') : tTest te σ H QT := k
theorem rd_B (k : te σ H fun x H' => ∃ k, x = .bl k ∧ QT k H') : tB te σ H QT := k
theorem rd_bl {b : Bool} {R : Bool → Prop} (k : R b) : ∃ c, V.bl b = .bl c ∧ R c := ⟨b, rfl, k⟩
theorem rd_and (k : c σ H fun b H1 => if b = true then c' σ H1 QT else QT false H1) : tAnd c c' σ H QT := k
theorem rd_or (k : c σ H fun b H1 => if b = true then QT true H1 else c' σ H1 QT) : tOr c c' σ H QT := k
theorem rd_yes (k : QT true H) : tYes σ H QT := k
theorem rd_not (k : c σ H fun b H1 => QT (!b) H1) : tNot c σ H QT := k
theorem rd_andV (k : ta σ H fun x H1 => ∃ b, x = .bl b ∧ if b = true then tb σ H1 Q else Q (.bl false) H1) : tAndV ta tb σ H Q := k
theorem rd_orV (k : ta σ H fun x H1 => ∃ b, x = .bl b ∧ if b = true then Q (.bl true) H1 else tb σ H1 Q) : tOrV ta tb σ H Q := k
theorem rd_notV (k : ta σ H fun x H1 => ∃ b, x = .bl b ∧ Q (.bl (!b)) H1) : tNotV ta σ H Q := k
theorem rd_ifE (k : c σ H fun b H1 => if b = true then ta σ H1 Q else tb σ H1 Q) : tIf c ta tb σ H Q := k
theorem rd_chain (k : ta σ H fun x H1 => tb σ H1 fun y H2 => r x y H2 fun z H3 => ∃ k, z = .bl k ∧ (if k = true then tc σ H3 fun w' H4 => r' y w' H4 Q else Q (.bl false) H3)) : tChain r r' ta tb tc σ H Q := k
theorem rd_cons (k : ta σ H fun x H1 => tr σ H1 fun xs H2 => QA (x :: xs) H2) : tCons ta tr σ H QA := k
theorem rd_nil (k : QA [] H) : tNil σ H QA := k
theorem rd_call {sp : Sp} {E : XK} {dvs : List V} (k : tr σ H fun vs H1 => sp (vs ++ dvs) H1 Q E) : tCall sp dvs E tr σ H Q := k
theorem rd_cb {r : List V → Hp → VK → Prop} (k : tr σ H fun vs H1 => r vs H1 Q) : tCB r tr σ H Q := k
theorem rd_tup (k : tr σ H fun xs H1 => xs.length ≤ sizeLine ∧ ∀ p, H1 p = none → Q (.ref p) (upd H1 p (.tup xs))) : tTup tr σ H Q := k
theorem rd_lst (k : tr σ H fun xs H1 => xs.length ≤ sizeLine ∧ ∀ p, H1 p = none → Q (.ref p) (upd H1 p (.lst xs))) : tLst tr σ H Q := k
theorem rd_bm0 {T : String} {r : V → List V → Hp → VK → Prop} (k : te σ H fun x H1 => tyV K T x H1 ∧ r x [] H1 Q) : tBM0 K T r te σ H Q := k
theorem rd_bm {T : String} {r : V → List V → Hp → VK → Prop} (k : te σ H fun x H1 => tyV K T x H1 ∧ tr σ H1 fun xs H2 => r x xs H2 Q) : tBM K T r te tr σ H Q := k
theorem rd_m1 {r : V → List V → Hp → VK → Prop} (k : ta σ H fun x H1 => (∃ a, x = .str a) ∧ tb σ H1 fun y H2 => r x [y] H2 Q) : tM1 r ta tb σ H Q := k
theorem rd_sl {rs : V → Option Int → Option Int → Hp → VK → Prop} {tl th : TO} (k : te σ H fun x H1 => tl σ H1 fun lo H2 => th σ H2 fun hi H3 => rs x lo hi H3 Q) : tSl rs te tl th σ H Q := k
theorem rd_po0 {QO : Option Int → Hp → Prop} (k : QO none H) : tNoPart σ H QO := k
theorem rd_po1 {QO : Option Int → Hp → Prop} (k : te σ H fun x H1 => ∃ i, x = .int i ∧ QO (some i) H1) : tPart te σ H QO := k
theorem rd_in {i : Int} {R : Int → Prop} (k : R i) : ∃ j, V.int i = .int j ∧ R j := ⟨i, rfl, k⟩
-- statements
theorem rd_seq (k : t ⟨u ⟨n, rt, bk, ct⟩, rt, bk, ct⟩ σ H) : tSeq t u ⟨n, rt, bk, ct⟩ σ H := k
theorem rd_set {i : Nat} (k : te σ H fun x H1 => n (σ.set i (some x)) H1) : tAsg te (gName i) ⟨n, rt, bk, ct⟩ σ H := k
theorem rd_asg (k : te σ H fun x H1 => g x σ H1 n) : tAsg te g ⟨n, rt, bk, ct⟩ σ H := k
theorem rd_sub {s : TSet} {Q : L2.St → Hp → Prop} (k : ta σ H fun o H1 => tb σ H1 fun i H2 => s o i v H2 fun H3 => Q σ H3) : gSub ta tb s v σ H Q := k
theorem rd_ret (k : te σ H rt) : tRet te ⟨n, rt, bk, ct⟩ σ H := k
theorem rd_drop (k : te σ H fun _ H1 => n σ H1) : tDrop te ⟨n, rt, bk, ct⟩ σ H := k
theorem rd_next' (k : n σ H) : tNext ⟨n, rt, bk, ct⟩ σ H := k
theorem rd_if (k : c σ H fun b H1 => if b = true then t ⟨n, rt, bk, ct⟩ σ H1 else u ⟨n, rt, bk, ct⟩ σ H1) : tIfS c t u ⟨n, rt, bk, ct⟩ σ H := k
theorem rd_brk (k : bk σ H) : tBreak ⟨n, rt, bk, ct⟩ σ H := k
theorem rd_cont (k : ct σ H) : tCont ⟨n, rt, bk, ct⟩ σ H := k
theorem rd_lc {wi : TI} {vs : List Nat} (k : wi σ H fun J H1 => ∀ D, H1 D = none → ∃ W : Nat → Nat → Hp → Prop, (∃ m, W 0 m (upd H1 D (.lst []))) ∧ ∀ i m H, W i m H →
  (J.stop i H ∧ Q (.ref D) H) ∨ (J.go i H ∧ ∃ Nx : Hp → Prop, (∀ H', Nx H' → ∃ m', m' < m ∧ W (i + 1) m' H') ∧ ∀ x H', J.yld i H x H' → g x (wipe σ vs) H' fun σ2 H2 => wipe σ2 vs = wipe σ vs ∧ c σ2 H2 fun b H3 =>
    if b = true then te σ2 H3 fun y H4 => ∃ acc, H4 D = some (.lst acc) ∧ acc.length < sizeLine ∧ Nx (upd H4 D (.lst (acc ++ [y]))) else Nx H3)) : tLc wi g c te vs σ H Q := k
theorem rd_rng1 {R : It → Hp → Prop} (k : tr σ H fun vs H1 => ∃ j : Int, vs = [.int j] ∧ -(2 ^ 62) ≤ j ∧ j < 2 ^ 62 ∧ R (Itr 0 j.toNat) H1) : iRng1 tr σ H R := k
theorem rd_istr {R : It → Hp → Prop} (k : te σ H fun v H1 => ∃ x, v = .str x ∧ R (Its x) H1) : iStr te σ H R := k
theorem rd_ilst {R : It → Hp → Prop} (k : te σ H fun x H1 => ∃ a, x = .ref a ∧ (∃ xs, SqL K H1 a xs) ∧ R (Itl K a) H1) : iList K te σ H R := k
theorem rd_ienum {R : It → Hp → Prop} (k : tr σ H fun vs H1 => ∃ a xs, vs = [.ref a] ∧ SqL K H1 a xs ∧ R (Ite K a) H1) : iEnum K tr σ H R := k
-- ifs
theorem rd_ite {p : Prop} [Decidable p] {A B : Prop} (h1 : p → A) (h2 : ¬ p → B) : if decide p = true then A else B := by
  by_cases h : p
  · rw [if_pos (decide_eq_true h)]; exact h1 h
  · rw [if_neg (by rw [decide_eq_false h]; decide)]; exact h2 h
theorem rd_iteN {p : Prop} [Decidable p] {A B : Prop} (h1 : ¬ p → A) (h2 : p → B) : if (!decide p) = true then A else B := by
  by_cases h : p
  · rw [decide_eq_true h, if_neg (by decide)]; exact h2 h
  · rw [decide_eq_false h]; simpa using h1 h
theorem rd_T {A B : Prop} (h : A) : if true = true then A else B := by rw [if_pos rfl]; exact h
theorem rd_F {A B : Prop} (h : B) : if false = true then A else B := by rw [if_neg (by decide)]; exact h
theorem rd_nT {A B : Prop} (h : B) : if (!true) = true then A else B := by rw [if_neg (by decide)]; exact h
theorem rd_nF {A B : Prop} (h : A) : if (!false) = true then A else B := by rw [if_pos (by rfl)]; exact h
theorem rd_iteB {b : Bool} {A B : Prop} (h1 : b = true → A) (h2 : b = false → B) : if b = true then A else B := by
  cases b
  · exact h2 rfl
  · exact h1 rfl
-- the heap, by the ledger
variable {M : List Addr} {H0 : Hp} {L T : List (Addr × HO)}
theorem rd_new {o : HO} {m : Nat} (A : At M H0 H L T) (hz : m ≤ sizeLine) (k : ∀ p H', At M H0 H' (L ++ [(p, o)]) T → Q (.ref p) H') : m ≤ sizeLine ∧ ∀ p, H p = none → Q (.ref p) (upd H p o) := ⟨hz, fun p h => k p _ (A.snoc h o)⟩
theorem rd_new1 {o : HO} (A : At M H0 H L T) (k : ∀ p H', At M H0 H' (L ++ [(p, o)]) T → Q (.ref p) H') : ∀ p, H p = none → Q (.ref p) (upd H p o) := fun p h => k p _ (A.snoc h o)
theorem rd_newT {o : HO} {m : Nat} (A : At M H0 H L T) (hz : m ≤ sizeLine) (k : ∀ p H', At M H0 H' L (T ++ [(p, o)]) → Q (.ref p) H') : m ≤ sizeLine ∧ ∀ p, H p = none → Q (.ref p) (upd H p o) := ⟨hz, fun p h => k p _ (A.snocT h o)⟩
theorem rd_ixL {p : Addr} {xs : List V} {i : Int} (h : SqL K H p xs) (e : atI xs i = some v) (k : Q v H) : rIxL K (.ref p) (.int i) H Q := ⟨p, xs, i, v, rfl, rfl, h, e, k⟩
theorem rd_ixS {z : Str} {i : Int} {c : Nat} (h : z.length ≤ sizeLine) (e : atI z.cps.toList i = some c) (k : Q (.str ⟨#[c]⟩) H) : rIxS (.str z) (.int i) H Q := ⟨z, i, c, rfl, rfl, h, e, k⟩
theorem rd_ixT {p : Addr} {xs : List V} {i : Int} (h : SqT K H p xs) (e : atI xs i = some v) (k : Q v H) : rIxT K (.ref p) (.int i) H Q := ⟨p, xs, i, v, rfl, rfl, h, e, k⟩
theorem rd_setL {p : Addr} {xs : List V} {i : Int} {j : Nat} {QH : Hp → Prop} (A : At M H0 H L T) (m : Nat) (h : L[m]? = some (p, .lst xs)) (e : ixN xs.length i = some j) (k : ∀ H', At M H0 H' (L.set m (p, .lst (xs.set j v))) T → QH H') : rSetL (.ref p) (.int i) v H QH :=
  ⟨p, xs, i, j, rfl, rfl, A.in h, e, k _ (A.set m h _)⟩
theorem rd_acc {D : Addr} {acc : List V} {Nx : Hp → Prop} (A : At M H0 H L T) (m : Nat) (h : L[m]? = some (D, .lst acc)) (hz : acc.length < sizeLine) (k : ∀ H', At M H0 H' (L.set m (D, .lst (acc ++ [v]))) T → Nx H') :
    ∃ acc, H D = some (.lst acc) ∧ acc.length < sizeLine ∧ Nx (upd H D (.lst (acc ++ [v]))) := ⟨acc, A.in h, hz, k _ (A.set m h _)⟩
theorem rd_slL {a : Addr} {xs : List V} {lo hi : Option Int} (A : At M H0 H L T) (h : SqL K H a xs) (k : ∀ p H', At M H0 H' (L ++ [(p, .lst (cutV xs lo hi))]) T → Q (.ref p) H') : rSlL K (.ref a) lo hi H Q := ⟨a, xs, rfl, h, fun p hp => k p _ (A.snoc hp _)⟩
/-- for i, x in enumerate(l) -/
theorem rd_forEnum {l : Addr} {xs : List V} {a b j : Nat} (hj : σ[j]? = some (some (.ref l))) (h : SqL K H l xs) (Pv : Nat → L2.St → Hp → Prop) (h0 : Pv 0 σ H) (hl : ∀ i σ H, Pv i σ H → SqL K H l xs)
    (hs : ∀ i x σ H H', xs[i]? = some x → Pv i σ H → Sk H H' → t ⟨Pv (i + 1), rt, n, Pv (i + 1)⟩ ((σ.set a (some (.int (i : Int)))).set b (some x)) H') (hd : ∀ σ H, Pv xs.length σ H → n σ H) :
    tFor (iEnum K (tCons (tVar j) tNil)) (gTup K 2 (gCons (gName a) (gCons (gName b) gNil))) t ⟨n, rt, bk, ct⟩ σ H := by
  refine ⟨_, hj, l, xs, rfl, h, for_it walk_enum Pv h0 (fun i σ H _ p => hl i σ H p) (fun i x σ H H' hi p y => ?_) hd⟩
  obtain ⟨T, x1, x2, rfl, hT, rfl, e1, e2⟩ := y
  cases Option.some.inj e1
  exact ⟨T, [.int (i : Nat), x2], rfl, .inl (.inl upd_same), rfl, _, _, rfl, _, _, rfl, rfl, hs i x2 σ H _ e2 p (Sk.of hT)⟩
/-- a value reckoned without a change of the heap -/
def Pu (te : TE) (σ : L2.St) (H : Hp) (v : V) : Prop := ∀ Q : VK, Q v H → te σ H Q
def PuT (tt : TT) (σ : L2.St) (H : Hp) (b : Bool) : Prop := ∀ Q : Bool → Hp → Prop, Q b H → tt σ H Q
theorem rd_andP {b1 b2 : Bool} (h1 : Pu ta σ H (.bl b1)) (h2 : b1 = true → Pu tb σ H (.bl b2)) (k : Q (.bl (b1 && b2)) H) : tAndV ta tb σ H Q :=
  h1 _ ⟨b1, rfl, by cases b1 with
    | true => exact rd_T (h2 rfl _ k)
    | false => exact rd_F k⟩
theorem rd_orP {b1 b2 : Bool} (h1 : Pu ta σ H (.bl b1)) (h2 : b1 = false → Pu tb σ H (.bl b2)) (k : Q (.bl (b1 || b2)) H) : tOrV ta tb σ H Q :=
  h1 _ ⟨b1, rfl, by cases b1 with
    | true => exact rd_T k
    | false => exact rd_F (h2 rfl _ k)⟩
theorem rd_pu (h : Pu te σ H v) (k : Q v H) : te σ H Q := h Q k
theorem rd_cut (Mid : L2.St → Hp → Prop) (h1 : t ⟨Mid, rt, bk, ct⟩ σ H) (h2 : ∀ σ' H', Mid σ' H' → u ⟨n, rt, bk, ct⟩ σ' H') : Evl.tCut t u ⟨n, rt, bk, ct⟩ σ H := ⟨Mid, h1, h2⟩
theorem rd_gn {i : Nat} {Q : L2.St → Hp → Prop} (k : Q (σ.set i (some v)) H) : gName i v σ H Q := k
end
theorem szl {n : Nat} (h : Nat.ble n 100000 = true := by rfl) : n ≤ sizeLine := Nat.le_trans (Nat.le_of_ble_eq_true h) (by decide)
theorem szn {n : Nat} (h : n ≤ 100000) : n ≤ sizeLine := Nat.le_trans h (by decide)
theorem szn' {n : Nat} (h : n < 100000) : n < sizeLine := Nat.lt_of_lt_of_le h (by decide)
theorem ixN_nat {n j : Nat} (hj : j < n) : ixN n (j : Int) = some j := by
  unfold ixN
  rw [if_pos (by omega), if_pos (by omega)]
  simp
theorem ixN_int {n : Nat} {i : Int} (h0 : 0 ≤ i) (h : i < n) : ixN n i = some i.toNat := by
  unfold ixN
  rw [if_pos h0, if_pos h]
theorem atI_int {α : Type} {xs : List α} {i : Int} (h0 : 0 ≤ i) (h : i < xs.length) : atI xs i = some (xs[i.toNat]'(by omega)) := by
  obtain ⟨j, rfl⟩ := Int.eq_ofNat_of_zero_le h0
  exact atI_nat (List.getElem?_eq_getElem (by omega))
theorem atI_ex {α : Type} {xs : List α} {i : Int} (h0 : 0 ≤ i) (h : i < xs.length) : ∃ x ∈ xs, atI xs i = some x := ⟨_, List.getElem_mem _, atI_int h0 h⟩

/-! ### built-in names that the module leaves -/
structure Blt (mg : Str → Option Value) : Prop where
  len : mg "len" = none
  isinstance : mg "isinstance" = none
  str : mg "str" = none
  all : mg "all" = none
  enumerate : mg "enumerate" = none
  range : mg "range" = none
  bool : mg "bool" = none
  tuple : mg "tuple" = none
  dict : mg "dict" = none
  list : mg "list" = none
  sorted : mg "sorted" = none
  set : mg "set" = none
  zip : mg "zip" = none
  int : mg "int" = none
  min : mg "min" = none
  repr : mg "repr" = none
  ValueError : mg "ValueError" = none
  super : mg "super" = none
theorem blt_mk {K : PySem.W.Frag} {h : Heap} {mg : Str → Option Value} (X : K.In h) (G : h.Ns mainGlobals mg)
    (z1 : PySem.W.nsIn K mainGlobals "len" = some none) (z2 : PySem.W.nsIn K mainGlobals "isinstance" = some none) (z3 : PySem.W.nsIn K mainGlobals "str" = some none) (z4 : PySem.W.nsIn K mainGlobals "all" = some none)
    (z5 : PySem.W.nsIn K mainGlobals "enumerate" = some none) (z6 : PySem.W.nsIn K mainGlobals "range" = some none) (z7 : PySem.W.nsIn K mainGlobals "bool" = some none) (z8 : PySem.W.nsIn K mainGlobals "tuple" = some none)
    (z9 : PySem.W.nsIn K mainGlobals "dict" = some none) (z10 : PySem.W.nsIn K mainGlobals "list" = some none) (z11 : PySem.W.nsIn K mainGlobals "sorted" = some none) (z12 : PySem.W.nsIn K mainGlobals "set" = some none)
    (z13 : PySem.W.nsIn K mainGlobals "zip" = some none) (z14 : PySem.W.nsIn K mainGlobals "int" = some none) (z15 : PySem.W.nsIn K mainGlobals "min" = some none) (z16 : PySem.W.nsIn K mainGlobals "repr" = some none)
    (z17 : PySem.W.nsIn K mainGlobals "ValueError" = some none) (z18 : PySem.W.nsIn K mainGlobals "super" = some none) : Blt mg :=
  ⟨PySem.W.mg_none_of X G z1, PySem.W.mg_none_of X G z2, PySem.W.mg_none_of X G z3, PySem.W.mg_none_of X G z4, PySem.W.mg_none_of X G z5, PySem.W.mg_none_of X G z6, PySem.W.mg_none_of X G z7, PySem.W.mg_none_of X G z8, PySem.W.mg_none_of X G z9,
   PySem.W.mg_none_of X G z10, PySem.W.mg_none_of X G z11, PySem.W.mg_none_of X G z12, PySem.W.mg_none_of X G z13, PySem.W.mg_none_of X G z14, PySem.W.mg_none_of X G z15, PySem.W.mg_none_of X G z16, PySem.W.mg_none_of X G z17, PySem.W.mg_none_of X G z18⟩
end Nn

namespace Nn
open PySem PySem.Spec PyProof.Rows L2
local macro_rules | `(tactic| walk_at "rd1") => `(tactic| first
  | with_reducible refine' rd_c ?_
  | ((with_reducible refine' rd_var ?h ?_); (case h => rfl))
  | with_reducible refine' rd_op ?_
  | with_reducible refine' rd_I0 ?_
  | with_reducible refine' rd_seq ?_
  | ((with_reducible refine' rd_mod ?h ?_); (case h => decide))
  | ((with_reducible refine' rd_fdiv ?h ?_); (case h => exact ⟨by decide, by decide⟩))
  | ((with_reducible refine' rd_pow ?h ?_); (case h => exact ⟨by decide, by decide, by decide⟩))
  | ((with_reducible refine' rd_mul ?h ?_); (case h => first | exact Or.inl (by decide) | exact Or.inr (by decide)))
  | with_reducible refine' rd_set ?_
  | with_reducible refine' rd_asg ?_
  | with_reducible refine' rd_cons ?_
  | with_reducible refine' rd_nil ?_
  | with_reducible refine' rd_call ?_
  | with_reducible refine' rd_cb ?_
  | with_reducible refine' rd_if ?_
  | with_reducible refine' rd_test ?_
  | with_reducible refine' rd_B ?_
  | with_reducible refine' rd_bl ?_
  | ((with_reducible refine' rd_eq ?h ?_); (case h => rfl))
  | ((with_reducible refine' rd_ne ?h ?_); (case h => rfl))
  | with_reducible refine' rd_not ?_
  | with_reducible refine' rd_and ?_
  | with_reducible refine' rd_or ?_
  | with_reducible refine' rd_notV ?_
  | with_reducible refine' rd_chain ?_
  | with_reducible refine' rd_ret ?_
  | with_reducible refine' rd_drop ?_
  | with_reducible refine' rd_next' ?_
  | with_reducible refine' rd_lst ?_
  | with_reducible refine' rd_tup ?_
  | with_reducible refine' rd_lc ?_
  | with_reducible refine' rd_rng1 ?_
  | with_reducible refine' rd_istr ?_
  | with_reducible refine' rd_ilst ?_
  | with_reducible refine' rd_ienum ?_
  | with_reducible refine' rd_bm0 ?_
  | with_reducible refine' rd_bm ?_
  | with_reducible refine' rd_m1 ?_
  | with_reducible refine' rd_sl ?_
  | with_reducible refine' rd_po0 ?_
  | with_reducible refine' rd_po1 ?_
  | with_reducible refine' rd_in ?_
  | with_reducible refine' rd_sub ?_
  | with_reducible refine' rd_ifE ?_
  | with_reducible refine' rd_un ?_
  | with_reducible refine' rd_U ?_
  | with_reducible refine' rd_brk ?_
  | with_reducible refine' rd_cont ?_
  | with_reducible refine' rd_yes ?_
  | with_reducible refine' rd_T ?_
  | with_reducible refine' rd_F ?_
  | with_reducible refine' rd_nT ?_
  | with_reducible refine' rd_nF ?_)
local macro_rules | `(tactic| walk_at "rd") => `(tactic| repeat walk_at "rd1")
def topS (i : Nat) : Stmt := PySem.Challenge.pw_newnames_k01_names.main.body.getD i (.Pass ⟨0, 0, 0, 0⟩)
section
variable {P : Program} {w : World} {K : PySem.W.Frag} {mg : Str → Option Value} {base : Heap}

/-! ### the state -/
def Sd (s : Int) : Prop := 0 ≤ s ∧ s < 2147483647
abbrev s_law_state : Stmt := topS 4
abbrev N_law_state : List Str := ["_law_cell", "_law_k"]
theorem sc_law_state : FnScope N_law_state ["_law_cell", "_law_k"] (defScope s_law_state) := ⟨rfl, rfl, rfl, by decide +kernel, rfl, by decide +kernel, by decide +kernel⟩
def spState : Sp := fun vs H Q _ => ∃ (c k : Int), vs = [.int c, .int k] ∧ ∀ s p H', Sd s → H p = none → H' p = some (.lst [.int s]) → Kp [] H H' → Q (.ref p) H'
theorem ok_state {f : Addr} {fd : FuncData} (F : Fun K "_law_state" "_law_state" s_law_state f fd) : FnOk P w K mg base CX0 1 f fd ["_law_cell", "_law_k"] spState := by
  refine F.ok sc_law_state (fun vs H Q E h => by obtain ⟨c, k, rfl, _⟩ := h; rfl) (fun cdv A outer s H vs Q E hr h => ?_)
  obtain ⟨c, k, rfl, q⟩ := h
  refine ⟨_, pss_one (ps_ret (pe_lst (pa_cons (pe_op op_add pe_int (pe_op op_mod (pe_op op_add (pv 0) (pe_op op_mul pe_int (pv 1))) pe_int)) pa_nil))), ?_⟩
  walk_at "rd"
  refine ⟨szl rfl, fun p hp => q _ p _ ?_ hp upd_same (fun a o e _ => by rw [upd_ne (ne_of_none e hp)]; exact e)⟩
  have h1 := Int.emod_nonneg (c + 104729 * k) (b := 2147483645) (by decide)
  have h2 := Int.emod_lt_of_pos (c + 104729 * k) (b := 2147483645) (by decide)
  exact ⟨by omega, by omega⟩
abbrev s_law_next : Stmt := topS 5
abbrev N_law_next : List Str := ["_law_state_here", "_law_size"]
theorem sc_law_next : FnScope N_law_next ["_law_state_here", "_law_size"] (defScope s_law_next) := ⟨rfl, rfl, rfl, by decide +kernel, rfl, by decide +kernel, by decide +kernel⟩
def spNext : Sp := fun vs H Q _ => ∃ (S : Addr) (s n : Int), vs = [.ref S, .int n] ∧ H S = some (.lst [.int s]) ∧ Sd s ∧ 0 < n ∧ ∀ s' r H', Sd s' → 0 ≤ r → r < n → Kp [S] H H' → H' S = some (.lst [.int s']) → Q (.int r) H'
theorem ok_next {f : Addr} {fd : FuncData} (F : Fun K "_law_next" "_law_next" s_law_next f fd) : FnOk P w K mg base CX0 1 f fd ["_law_state_here", "_law_size"] spNext := by
  refine F.ok sc_law_next (fun vs H Q E h => by obtain ⟨S, s, n, rfl, _⟩ := h; rfl) (fun cdv A outer s0 H vs Q E hr h => ?_)
  obtain ⟨S, s, n, rfl, hS, hs, hn, q⟩ := h
  refine ⟨_, pss_cons (ps_asg (pe_op op_mod (pe_op op_mul (pe_ix ix_list (pv 0) pe_int (fun _ _ => rfl)) pe_int) pe_int) (pg_sub (pv 0) pe_int set_list))
    (pss_one (ps_ret (pe_op op_mod (pe_op op_fdiv (pe_op op_mod (pe_op op_add (pe_op op_mul (pe_ix ix_list (pv 0) pe_int (fun _ _ => rfl)) (pe_ix ix_list (pv 0) pe_int (fun _ _ => rfl))) (pe_op op_mul pe_int (pe_ix ix_list (pv 0) pe_int (fun _ _ => rfl)))) pe_int) pe_int) (pv 1)))), ?_⟩
  have A := At.one hS
  walk_at "rd"
  refine rd_ixL (A.lst 0 rfl) (by rfl) ?_
  walk_at "rd"
  have h1 := Int.emod_nonneg (s * 48271) (b := 2147483647) (by decide)
  have h2 := Int.emod_lt_of_pos (s * 48271) (b := 2147483647) (by decide)
  refine rd_setL A 0 rfl (by rfl) fun H1 A1 => ?_
  generalize s * 48271 % 2147483647 = t at *
  walk_at "rd"
  refine rd_ixL (A1.lst 0 rfl) (by rfl) ?_
  walk_at "rd"
  refine rd_ixL (A1.lst 0 rfl) (by rfl) ?_
  walk_at "rd"
  refine rd_mul (Or.inl ⟨by omega, by omega⟩) ?_
  walk_at "rd"
  refine rd_ixL (A1.lst 0 rfl) (by rfl) ?_
  walk_at "rd"
  refine rd_mod hn ?_
  exact q t _ H1 ⟨h1, h2⟩ (Int.emod_nonneg _ (by omega)) (Int.emod_lt_of_pos _ hn) A1.keep (A1.get 0 rfl)
/-! ### is_name -/
def signOk (c : Nat) : Bool := decide (97 ≤ c) && decide (c ≤ 122)
def nameOk (z : Str) : Bool := decide (1 ≤ z.length ∧ z.length ≤ 8) && z.cps.toList.all signOk
theorem lt1 (a b : Nat) : ([a] < [b]) ↔ a < b := by
  constructor
  · intro h
    rcases List.cons_lt_cons_iff.mp h with h | ⟨_, h⟩
    · exact h
    · exact absurd h (by simp)
  · intro h
    exact List.cons_lt_cons_iff.mpr (.inl h)
theorem cps_a : ("a" : Str).cps.toList = [97] := by decide +kernel
theorem cps_z : ("z" : Str).cps.toList = [122] := by decide +kernel
abbrev sis_name : Stmt := topS 2
abbrev Nis_name : List Str := ["thing", "sign"]
theorem scis_name : FnScope Nis_name ["thing"] (defScope sis_name) := ⟨rfl, rfl, rfl, by decide +kernel, rfl, by decide +kernel, by decide +kernel⟩
def spIsName (K : PySem.W.Frag) : Sp := fun vs H Q _ => ∃ x t b, vs = [x] ∧ TyX K H x t ∧ PySem.W.kitOne K t (.type "str") = some b ∧
  (b = true → ∃ z : Str, x = .str z ∧ z.length ≤ 1000 ∧ ∀ H', Kp [] H H' → Q (.bl (nameOk z)) H') ∧ (b = false → ∀ H', Kp [] H H' → Q (.bl false) H')
theorem ok_is_name {f : Addr} {fd : FuncData} (F : Fun K "is_name" "is_name" sis_name f fd) (B : Blt mg) (gL : ∃ tk, mg "LONGEST" = some (.int 8 tk)) : FnOk P w K mg base CX0 1 f fd ["thing"] (spIsName K) := by
  refine F.ok scis_name (fun vs H Q E h => by obtain ⟨x, t, b, rfl, _⟩ := h; rfl) (fun cdv A outer s0 H vs Q E hr h => ?_)
  obtain ⟨x, t, b, rfl, ty, kit, k1, k2⟩ := h
  refine ⟨_, pss_cons (ps_if (PW.pt (pw_or (pt_not (pt_val (pe_callB call_isi (by rfl) B.isinstance (by decide +kernel) (pa_cons (pv 0) (pa_cons (pe_ty (T := "str") (by rfl) B.str (by decide +kernel)) pa_nil))))) (pw_or1 (pt_not (pt_chain op_le op_le pe_int (pe_callB call_len_str (by rfl) B.len (by decide +kernel) (pa_cons (pv 0) pa_nil)) (pe_gint (by rfl) gL)))))) (pss_one (ps_ret pe_bl))
   (pss_nil))
  (pss_one (ps_ret (pe_callB (cr_all rfl) (by rfl) B.all (by decide +kernel) (pa_cons (pe_lc (own := [("sign", 1)]) rfl scis_name.nd (pi_str (pv 0)) (blkOk_by (N := Nis_name) (sc := defScope sis_name) (by decide +kernel)) (fun _ _ _ _ _ => (pg_name (i := 1) scis_name.nd rfl (Or.inl rfl))) (fun _ _ _ _ _ => pts_nil) (fun _ _ _ _ _ => (pe_chain op_le_str op_le_str pe_str (pv 1) pe_str))) pa_nil)))), ?_⟩
  have A := At.nil H
  walk_at "rd"
  refine ⟨x, .ty "str", t, .type "str", b, rfl, .ty "str", ty, kit, rd_bl ?_⟩
  cases b with
  | false =>
    walk_at "rd"
    exact k2 rfl H (Kp.refl H)
  | true =>
    obtain ⟨z, rfl, hz, q⟩ := k1 rfl
    walk_at "rd"
    refine ⟨z, rfl, szn (by omega), ?_⟩
    walk_at "rd"
    refine rd_ite (fun h1 => ?_) (fun h1 => ?_)
    · walk_at "rd"
      refine rd_iteN (fun h2 => ?_) (fun h2 => ?_)
      · walk_at "rd"
        have e : nameOk z = false := by
          unfold nameOk
          rw [decide_eq_false (by omega)]
          rfl
        have := q H (Kp.refl H)
        rw [e] at this
        exact this
      · walk_at "rd"
        refine ⟨z, rfl, fun D hD => ?_⟩
        refine lc_it walk_str (fun i H' => At [] H H' [(D, .lst ((z.cps.toList.take i).map fun c => V.bl (signOk c)))] []) (A.snoc hD _) (fun _ _ _ _ => trivial) ?_ ?_
        · rintro i x H1 H2 hi A1 ⟨rfl, c, hc, rfl⟩
          refine ⟨rfl, ?_⟩
          walk_at "rd"
          refine ⟨_, _, rfl, rfl, rd_bl ?_⟩
          have e1 : (!decide ((⟨#[c]⟩ : Str).cps.toList < ("a" : Str).cps.toList)) = decide (97 ≤ c) := by
            rw [cps_a, show (⟨#[c]⟩ : Str).cps.toList = [c] from rfl, ← decide_not]
            exact decide_eq_decide.mpr (by rw [lt1]; omega)
          have e2 : (!decide (("z" : Str).cps.toList < (⟨#[c]⟩ : Str).cps.toList)) = decide (c ≤ 122) := by
            rw [cps_z, show (⟨#[c]⟩ : Str).cps.toList = [c] from rfl, ← decide_not]
            exact decide_eq_decide.mpr (by rw [lt1]; omega)
          have hcl : z.cps.toList[i]? = some c := by rw [Array.getElem?_toList]; exact hc
          have et : ((z.cps.toList.take (i + 1)).map fun c => V.bl (signOk c)) = ((z.cps.toList.take i).map fun c => V.bl (signOk c)) ++ [.bl (signOk c)] := by
            rw [List.take_add_one, hcl, List.map_append]; rfl
          have hl : ((z.cps.toList.take i).map fun c => V.bl (signOk c)).length < sizeLine := by
            rw [List.length_map, List.length_take]
            refine szn' ?_
            have : z.cps.toList.length ≤ 1000 := by rw [Array.length_toList]; exact hz
            omega
          rw [e1]
          refine rd_ite (fun h3 => ?_) (fun h3 => ?_)
          · walk_at "rd"
            refine ⟨_, _, rfl, rfl, ?_⟩
            rw [e2]
            refine ⟨_, A1.get 0 rfl, hl, ?_⟩
            have e3 : signOk c = decide (c ≤ 122) := by unfold signOk; rw [decide_eq_true h3, Bool.true_and]
            rw [et, e3]
            exact A1.set 0 rfl _
          · refine ⟨_, A1.get 0 rfl, hl, ?_⟩
            have e3 : signOk c = false := by unfold signOk; rw [decide_eq_false h3, Bool.false_and]
            rw [et, e3]
            exact A1.set 0 rfl _
        · intro H1 A1
          walk_at "rd"
          refine ⟨D, z.cps.toList.map signOk, rfl, ?_, ?_⟩
          · have := A1.lst (K := K) 0 rfl
            rw [show z.cps.size = z.cps.toList.length from (Array.length_toList).symm, List.take_length] at this
            rw [List.map_map]
            exact this
          · have e : nameOk z = (z.cps.toList.map signOk).all id := by
              unfold nameOk
              rw [decide_eq_true (by omega), Bool.true_and, List.all_map]
              rfl
            rw [← e]
            exact q H1 A1.keep
    · walk_at "rd"
      have e : nameOk z = false := by
        unfold nameOk
        rw [decide_eq_false (by omega)]
        rfl
      have := q H (Kp.refl H)
      rw [e] at this
      exact this
/-! ### the law -/
section
variable {M : List Addr} {H0 H : Hp} {L T : List (Addr × HO)} {S : Addr} {s n : Int} {Q : VK} {E : XK}
theorem rd_state (A : At M H0 H L T) {c k : Int} (q : ∀ s p H', Sd s → At M H0 H' (L ++ [(p, .lst [.int s])]) T → Q (.ref p) H') : spState [.int c, .int k] H Q E :=
  ⟨c, k, rfl, fun s p H' hs hn hp kp => q s p H' hs (A.add (A.c0 kp) rfl hn hp)⟩
theorem rd_next (A : At M H0 H L T) (i : Nat) (h : L[i]? = some (S, .lst [.int s])) (hs : Sd s) (hn : 0 < n) (q : ∀ s' r H', Sd s' → 0 ≤ r → r < n → At M H0 H' (L.set i (S, .lst [.int s'])) T → Q (.int r) H') : spNext [.ref S, .int n] H Q E :=
  ⟨S, s, n, rfl, A.in h, hs, hn, fun s' r H' a b c k e => q s' r H' a b c (A.c1 i h k e)⟩
theorem rd_name (A : At M H0 H L T) {z : Str} (hz : z.length ≤ 1000) (q : ∀ H', At M H0 H' L T → Q (.bl (nameOk z)) H') : spIsName K [.str z] H Q E :=
  ⟨.str z, .type "str", true, rfl, .base (.str z), kit_ty (by decide +kernel), fun _ => ⟨z, rfl, hz, fun H' k => q H' (A.c0 k)⟩, fun e => by cases e⟩
theorem rd_noname (A : At M H0 H L T) {x : V} {t : String} (ty : TyX K H x (.type t)) (kit : kitB t "str" = some false) (q : ∀ H', At M H0 H' L T → Q (.bl false) H') : spIsName K [x] H Q E :=
  ⟨x, .type t, false, rfl, ty, kit_ty kit, (fun e => by cases e), fun _ H' k => q H' (A.c0 k)⟩
end
theorem dp_strs {K : PySem.W.Frag} {H : Hp} : ∀ zs : List Str, DpAll K H (zs.map V.str) (zs.map PyData.str)
  | [] => .nil
  | z :: zs => .cons (.str z) (dp_strs zs)
theorem depth_strs : ∀ zs : List Str, PyData.depthAll (zs.map PyData.str) = 0
  | [] => rfl
  | z :: zs => by
    show max (PyData.depth (.str z)) (PyData.depthAll (zs.map PyData.str)) = 0
    rw [depth_strs zs]; rfl
theorem lay_strs : ∀ zs : List Str, (∀ z ∈ zs, PyData.strOk z = true) → PyData.canLayAll0 (zs.map PyData.str) = true
  | [], _ => rfl
  | z :: zs, h => by
    show (PyData.canLay0 (.str z) && PyData.canLayAll0 (zs.map PyData.str)) = true
    rw [lay_strs zs (fun y hy => h y (List.mem_cons_of_mem _ hy))]
    show (PyData.strOk z && true) = true
    rw [h z List.mem_cons_self]; rfl
theorem shaped_strs {zs : List Str} (h : ∀ z ∈ zs, PyData.strOk z = true) : SeqAt.shaped (.list (zs.map PyData.str)) = true := by
  unfold SeqAt.shaped
  rw [show PyData.canLay0 (.list (zs.map PyData.str)) = PyData.canLayAll0 (zs.map PyData.str) from rfl, lay_strs zs h]
  rw [show PyData.depth (.list (zs.map PyData.str)) = PyData.depthAll (zs.map PyData.str) + 1 from rfl, depth_strs]
  rfl
/-- the list of one-sign texts -/
def sg (l : List Nat) : List V := l.map fun c => V.str ⟨#[c]⟩
def sgs (l : List Nat) : List Str := l.map fun c => (⟨#[c]⟩ : Str)
theorem sg_sgs (l : List Nat) : sg l = (sgs l).map V.str := by unfold sg sgs; rw [List.map_map]; rfl
theorem sg_len (l : List Nat) : (sg l).length = l.length := by unfold sg; rw [List.length_map]
theorem join_sg : ∀ l : List Nat, TL.joinL [] (l.map fun c => [c]) = l
  | [] => rfl
  | [c] => rfl
  | c :: d :: r => by
    show [c] ++ ([] ++ TL.joinL [] ((d :: r).map fun c => [c])) = c :: d :: r
    rw [join_sg (d :: r)]; rfl
theorem str_nil : ("" : Str) = SX.S [] := by decide +kernel
theorem join_sgs (l : List Nat) : Txt.join "" (sgs l) = SX.S l := by
  have e : sgs l = (l.map fun c => [c]).map SX.S := by unfold sgs; rw [List.map_map]; rfl
  rw [str_nil, e, SX.join_S, join_sg]
theorem eqv_nil (l : List Nat) : PyData.eqv (.list ((sgs l).map PyData.str)) (.list []) = decide (l = []) := by
  cases l with
  | nil => rfl
  | cons c r => rfl
theorem sgs_ok {l : List Nat} (h : ∀ c ∈ l, c < 1000) : ∀ z ∈ sgs l, PyData.strOk z = true := by
  intro z hz
  obtain ⟨c, hc, rfl⟩ := List.mem_map.mp hz
  have := h c hc
  show (#[c] : Array Nat).all (· < 0x110000) = true
  simp
  omega
abbrev slaw : Stmt := topS 6
abbrev Nlaw : List Str := ["_law_script", "_law_letters", "_law_odd", "_law_k", "_law_cell", "_law_state_here", "_law_signs", "_law_good", "_law_found", "_law_thing", "_law_j"]
theorem sclaw : FnScope Nlaw ["_law_script"] (defScope slaw) := ⟨rfl, rfl, rfl, by decide +kernel, rfl, by decide +kernel, by decide +kernel⟩
def letters : Str := "abcdefghijklmnopqrstuvwxyz"
def odd : Str := "AZ09 .-_\n\t'{@`"
theorem letters_ok : ∀ c ∈ letters.cps.toList, signOk c = true ∧ c < 1000 := by decide +kernel
theorem odd_ok : ∀ c ∈ odd.cps.toList, signOk c = false ∧ c < 1000 := by decide +kernel
theorem letters_len : letters.cps.toList.length = 26 := by decide +kernel
theorem odd_len : odd.cps.toList.length = 14 := by decide +kernel
theorem nameOk_S (l : List Nat) : nameOk (SX.S l) = (decide (1 ≤ l.length ∧ l.length ≤ 8) && l.all signOk) := by
  unfold nameOk
  rw [SX.S_len]
structure Cs (P : Program) (w : World) (K : PySem.W.Frag) (mg : Str → Option Value) (base : Heap) : Prop where
  _law_state : Cl P w K mg base 1 "_law_state" spState
  _law_next : Cl P w K mg base 1 "_law_next" spNext
  is_name : Cl P w K mg base 1 "is_name" (spIsName K)
def spLaw (K : PySem.W.Frag) : Sp := fun vs H Q _ => ∃ (a : Addr) (ns : List Int), vs = [.ref a] ∧ SqL K H a (ns.map V.int) ∧ ns.length ≤ 63 ∧ ∀ H', Q (.bl true) H'
theorem ok_law {f : Addr} {fd : FuncData} (F : Fun K "law" "law" slaw f fd) (B : Blt mg) (C : Cs P w K mg base) : FnOk P w K mg base CX0 2 f fd ["_law_script"] (spLaw K) := by
  refine F.ok sclaw (fun vs H Q E h => by obtain ⟨a, ns, rfl, _⟩ := h; rfl) (fun cdv A outer s0 H vs Q E hr h => ?_)
  obtain ⟨a, ns, rfl, hS, hlen, q⟩ := h
  refine ⟨_, pss_cons (ps_set (i := 1) sclaw.nd rfl (Or.inr rfl) pe_str)
  (pss_cons (ps_set (i := 2) sclaw.nd rfl (Or.inl rfl) pe_str)
  (pss_cons (ps_for PassesOwn.never rfl (pi_enum (by rfl) B.enumerate (pa_cons (pv 0) pa_nil)) (pg_tup rfl (pgs_cons (pg_name (i := 3) sclaw.nd rfl (Or.inl rfl)) (pgs_cons (pg_name (i := 4) sclaw.nd rfl (Or.inl rfl)) pgs_nil)))
   (pss_cons (ps_set (i := 5) sclaw.nd rfl (Or.inr rfl) (pe_cl C._law_state hr (by decide) (by rfl) (pa_cons (pv 4) (pa_cons (pv 3) pa_nil))))
  (pss_cons (ps_setLc (i := 6) (own := [("_law_j", 10)]) rfl sclaw.nd rfl rfl (sw_true rfl rfl rfl (by decide +kernel)) (pi_range1 (by rfl) B.range (pa_cons (pe_cl C._law_next hr (by decide) (by rfl) (pa_cons (pv 5) (pa_cons pe_int pa_nil))) pa_nil)) (blkOk_by (N := Nlaw) (sc := defScope slaw) (by decide +kernel)) (fun _ _ _ _ _ => (pg_name (i := 10) sclaw.nd rfl (Or.inl rfl))) (fun _ _ _ _ _ => pts_nil) (fun _ _ _ _ _ => (pe_ix ix_str (pv 1) (pe_cl C._law_next hr (by decide) (by rfl) (pa_cons (pv 5) (pa_cons pe_int pa_nil))) (fun _ _ => rfl))))
  (pss_cons (ps_set (i := 7) sclaw.nd rfl (Or.inl rfl) (pe_and (pe_cmpR op_lt pe_int (pe_callB call_len_seq (by rfl) B.len (by decide +kernel) (pa_cons (pv 6) pa_nil)) (nomark _)) (pe_one (pe_cmpR op_lt (pe_callB call_len_seq (by rfl) B.len (by decide +kernel) (pa_cons (pv 6) pa_nil)) pe_int (nomark _)))))
  (Evl.pss_cut (ps_if (PW.pt (pw_and (pt_cmpR op_eq (pe_cl C._law_next hr (by decide) (by rfl) (pa_cons (pv 5) (pa_cons pe_int pa_nil))) pe_int (nomark _)) (pw_and1 (pt_cmpR (op_neD hr.units) (pv 6) (pe_lst pa_nil) (nomark _))))) (pss_cons (ps_asg (pe_ix ix_str (pv 2) (pe_cl C._law_next hr (by decide) (by rfl) (pa_cons (pv 5) (pa_cons (pe_callB call_len_str (by rfl) B.len (by decide +kernel) (pa_cons (pv 2) pa_nil)) pa_nil))) (fun _ _ => rfl)) (pg_sub (pv 6) (pe_cl C._law_next hr (by decide) (by rfl) (pa_cons (pv 5) (pa_cons (pe_callB call_len_seq (by rfl) B.len (by decide +kernel) (pa_cons (pv 6) pa_nil)) pa_nil))) set_list))
  (pss_one (ps_set (i := 7) sclaw.nd rfl (Or.inl rfl) pe_bl)))
   (pss_nil))
  (pss_cons (ps_set (i := 8) sclaw.nd rfl (Or.inl rfl) (pe_cl C.is_name hr (by decide) (by rfl) (pa_cons (pe_join pe_str (pv 6)) pa_nil)))
  (pss_cons (ps_if (PW.pt (pw_or (pt_not (pt_val (pe_callB call_isi (by rfl) B.isinstance (by decide +kernel) (pa_cons (pv 8) (pa_cons (pe_ty (T := "bool") (by rfl) B.bool (by decide +kernel)) pa_nil))))) (pw_or1 (pt_cmpR op_ne (pv 8) (pv 7) (nomark _))))) (pss_one (ps_ret pe_bl))
   (pss_nil))
  (pss_cons (ps_set (i := 9) sclaw.nd rfl (Or.inl rfl) (pe_ix ix_list (pe_lst (pa_cons (pe_op op_mod (pv 4) (pe_op op_pow pe_int pe_int)) (pa_cons pe_non (pa_cons pe_bl (pa_cons (pv 6) (pa_cons (pe_callTy call_tuple_of (by rfl) B.tuple (by decide +kernel) (pa_cons (pe_slice sl_list (pv 6) po_none (po_some pe_int)) pa_nil)) (pa_cons (pe_disp (pps_cons pe_str pe_int pps_nil) (by rfl) (by rfl) (fun z => by cases z) (by decide)) (pa_cons pe_int (pa_cons pe_bl pa_nil))))))))) (pe_cl C._law_next hr (by decide) (by rfl) (pa_cons (pv 5) (pa_cons pe_int pa_nil))) (fun _ _ => rfl)))
  (pss_one (ps_if (pt_cmpR op_isnot_bl (pe_cl C.is_name hr (by decide) (by rfl) (pa_cons (pv 9) pa_nil)) pe_bl (nomark _)) (pss_one (ps_ret pe_bl))
   (pss_nil)))))))))))
  (pss_one (ps_ret pe_bl)))), ?_⟩
  have A := At.nil H
  walk_at "rd"
  refine rd_forEnum (xs := ns.map V.int) (l := a) rfl hS (fun _ σ H' => ∃ y3 y4 y5 y6 y7 y8 y9 y10, σ = [some (.ref a), some (.str letters), some (.str odd), y3, y4, y5, y6, y7, y8, y9, y10] ∧ At [] H H' [] [])
    ⟨none, none, none, none, none, none, none, none, rfl, A⟩ (fun _ _ _ ⟨_, _, _, _, _, _, _, _, _, A1⟩ => A1.sq hS (by simp)) ?_ ?_
  · rintro i x σ H1 H2 hi ⟨y3, y4, y5, y6, y7, y8, y9, y10, rfl, A1⟩ sk
    have A2 := A1.skip sk
    clear A1 sk A
    obtain ⟨cell, rfl⟩ : ∃ c, x = V.int c := by
      rw [List.getElem?_map] at hi
      obtain ⟨c, _, e⟩ := Option.map_eq_some_iff.mp hi
      exact ⟨c, e.symm⟩
    -- state
    walk_at "rd"
    refine rd_state A2 fun s S H3 hs A3 => ?_
    clear A2
    walk_at "rd"
    -- signs
    refine rd_next A3 0 rfl hs (by decide) fun s r1 H4 hs h0 h1 A4 => ?_
    clear A3
    walk_at "rd"
    refine ⟨_, rfl, by omega, by omega, fun D hD => ?_⟩
    refine lc_range (fun i H' => ∃ (s : Int) (zs : List Nat), Sd s ∧ zs.length = i ∧ (∀ c ∈ zs, signOk c = true ∧ c < 1000) ∧ At [] H H' [(S, .lst [.int s]), (D, .lst (sg zs))] []) ⟨s, [], hs, rfl, by simp, A4.snoc hD _⟩ ?_ ?_
    · rintro i H5 hi ⟨s, zs, hs, hl, hz, A5⟩
      refine ⟨rfl, ?_⟩
      walk_at "rd"
      refine rd_next A5 0 rfl hs (by decide) fun s r H6 hs h0 h1 A6 => ?_
      obtain ⟨c, hc, e⟩ := atI_ex (xs := letters.cps.toList) h0 (by rw [letters_len]; exact h1)
      refine rd_ixS (szl rfl) e ?_
      refine ⟨_, A6.get 1 rfl, by rw [sg_len]; exact szn' (by omega), s, zs ++ [c], hs, by rw [List.length_append, hl]; rfl, ?_, ?_⟩
      · intro d hd
        rcases List.mem_append.mp hd with hd | hd
        · exact hz d hd
        · rw [List.mem_singleton] at hd; exact hd ▸ letters_ok c hc
      · have := A6.set 1 rfl (.lst (sg zs ++ [.str ⟨#[c]⟩]))
        rw [show sg (zs ++ [c]) = sg zs ++ [.str ⟨#[c]⟩] by unfold sg; rw [List.map_append]; rfl]
        exact this
    rintro H5 ⟨s1, zs, hs1, hl, hz, A5⟩
    clear A4 hs s
    have hz10 : zs.length ≤ 10 := by omega
    walk_at "rd"
    -- good
    refine rd_andP (b1 := decide (0 < (zs.length : Int))) (b2 := decide ((zs.length : Int) < 9)) (fun Q q => ?_) (fun _ Q q => ?_) ?_
    · walk_at "rd"
      refine ⟨_, _, rfl, .inl (A5.lst 1 rfl), ?_⟩
      rw [sg_len]
      walk_at "rd"
      exact q
    · walk_at "rd"
      refine ⟨_, _, rfl, .inl (A5.lst 1 rfl), ?_⟩
      rw [sg_len]
      walk_at "rd"
      exact q
    have eg : (decide (0 < (zs.length : Int)) && decide ((zs.length : Int) < 9)) = nameOk (SX.S zs) := by
      rw [nameOk_S, ← Bool.decide_and, show zs.all signOk = true from List.all_eq_true.mpr fun c hc => (hz c hc).1, Bool.and_true]
      exact decide_eq_decide.mpr (by omega)
    rw [eg]
    -- one sign changed, or not
    refine rd_cut (fun σ' H' => ∃ (s : Int) (zs : List Nat) (y8 y9 y10 : Option V), Sd s ∧ zs.length ≤ 10 ∧ (∀ c ∈ zs, c < 1000) ∧
      σ' = [some (.ref a), some (.str letters), some (.str odd), some (.int i), some (.int cell), some (.ref S), some (.ref D), some (.bl (nameOk (SX.S zs))), y8, y9, y10] ∧ At [] H H' [(S, .lst [.int s]), (D, .lst (sg zs))] []) ?_ ?_
    · walk_at "rd"
      refine rd_next A5 0 rfl hs1 (by decide) fun s r H6 hs h0 h1 A6 => ?_
      walk_at "rd"
      have skip : ∃ (s : Int) (zs' : List Nat) (y8' y9' y10' : Option V), Sd s ∧ zs'.length ≤ 10 ∧ (∀ c ∈ zs', c < 1000) ∧
        [some (V.ref a), some (.str letters), some (.str odd), some (.int i), some (.int cell), some (.ref S), some (.ref D), some (.bl (nameOk (SX.S zs))), y8, y9, y10] = [some (V.ref a), some (.str letters), some (.str odd), some (.int i), some (.int cell), some (.ref S), some (.ref D), some (.bl (nameOk (SX.S zs'))), y8', y9', y10'] ∧ At [] H H6 [(S, .lst [.int s]), (D, .lst (sg zs'))] [] :=
        ⟨s, zs, y8, y9, y10, hs, hz10, fun c hc => (hz c hc).2, rfl, A6⟩
      refine rd_ite (fun _ => ?_) (fun _ => ?_)
      · walk_at "rd"
        refine ⟨szl rfl, fun e he => ?_⟩
        have A7 := A6.skip (Sk.of (o := .lst []) he)
        refine ⟨.list ((sgs zs).map PyData.str), .list [], .lst ?_ (dp_strs _), .lst (.inl (.inl upd_same)) .nil, shaped_strs (sgs_ok fun c hc => (hz c hc).2), rfl, ?_⟩
        · rw [← sg_sgs]; exact A7.lst 1 rfl
        rw [eqv_nil]
        refine rd_bl ?_
        refine rd_iteN (fun hne => ?_) (fun _ => ?_)
        · walk_at "rd"
          refine ⟨_, rfl, szl rfl, ?_⟩
          walk_at "rd"
          refine rd_next A7 0 rfl hs (by decide +kernel) fun s r H8 hs h0 h1 A8 => ?_
          obtain ⟨c, hc, e⟩ := atI_ex (xs := odd.cps.toList) h0 (by rw [odd_len]; exact h1)
          refine rd_ixS (szl rfl) e ?_
          walk_at "rd"
          refine ⟨_, _, rfl, .inl (A8.lst 1 rfl), ?_⟩
          rw [sg_len]
          walk_at "rd"
          have hpos : 0 < zs.length := List.length_pos_iff.mpr hne
          refine rd_next A8 0 rfl hs (by omega) fun s r H9 hs h0 h1 A9 => ?_
          refine rd_setL A9 1 rfl (ixN_int h0 (by rw [sg_len]; exact h1)) fun H10 A10 => ?_
          walk_at "rd"
          have ez : (sg zs).set r.toNat (.str ⟨#[c]⟩) = sg (zs.set r.toNat c) := by unfold sg; rw [List.map_set]
          refine ⟨s, zs.set r.toNat c, y8, y9, y10, hs, by rw [List.length_set]; exact hz10, ?_, ?_, ?_⟩
          · intro d hd
            rcases List.mem_or_eq_of_mem_set hd with hd | rfl
            · exact (hz d hd).2
            · exact (odd_ok d hc).2
          · have e0 : nameOk (SX.S (zs.set r.toNat c)) = false := by
              rw [nameOk_S]
              have : (zs.set r.toNat c).all signOk = false := by
                rw [List.all_eq_false]
                exact ⟨c, List.mem_set (by omega) _, by rw [(odd_ok c hc).1]; decide⟩
              rw [this, Bool.and_false]
            rw [e0]
            rfl
          · rw [← ez]; exact A10
        · walk_at "rd"
          obtain ⟨s', zs', a1, a2, a3, b1, b2, b3, b4, b5⟩ := skip
          exact ⟨s', zs', a1, a2, a3, b1, b2, b3, b4, b5.skip (Sk.of he)⟩
      · walk_at "rd"
        exact skip
    · rintro σ H6 ⟨s, zs, y8, y9, y10, hs, hz10, hz, rfl, A6⟩
      clear A5 y3 y4 y5 y6 y7
      walk_at "rd"
      refine ⟨⟨_, rfl⟩, ?_⟩
      walk_at "rd"
      refine ⟨_, _, sgs zs, rfl, rfl, .inl ?_, ?_, ?_⟩
      · rw [← sg_sgs]; exact A6.lst 1 rfl
      · unfold sgs
        rw [List.map_map, List.length_map]
        have : (zs.map ((fun x : Str => x.length) ∘ fun c => (⟨#[c]⟩ : Str))).sum = zs.length := by
          clear hz A6 hz10
          induction zs with
          | nil => rfl
          | cons c r ih => rw [List.map_cons, List.sum_cons, ih, List.length_cons]; show 1 + _ = _; omega
        rw [this, show ("" : Str).length = 0 by decide +kernel]
        omega
      rw [show Txt.join ("" : Str) (sgs zs) = SX.S zs from join_sgs zs]
      walk_at "rd"
      refine rd_name A6 (by rw [SX.S_len]; omega) fun H7 A7 => ?_
      walk_at "rd"
      refine ⟨_, .ty "bool", .type "bool", .type "bool", true, rfl, .ty _, .base (.bl _), kit_ty (by decide +kernel), rd_bl ?_⟩
      walk_at "rd"
      refine rd_iteN (fun hne => absurd rfl hne) (fun _ => ?_)
      walk_at "rd"
      refine rd_slL A7 (A7.lst 1 rfl) fun p1 H8 A8 => ?_
      walk_at "rd"
      refine ⟨_, _, rfl, .inl ⟨A8.lst 2 rfl, fun p2 hp2 => ?_⟩⟩
      have A9 := A8.snoc hp2 (.tup (cutV (sg zs) none (some 1)))
      revert A9
      generalize upd H8 p2 (.tup (cutV (sg zs) none (some 1))) = H9
      intro A9
      walk_at "rd"
      refine fun p3 hp3 => ?_
      have A10 := A9.snoc hp3 (.dK [])
      refine ⟨upd_same, [(.inr "a", .int 1)], rfl, by decide, ?_⟩
      have A11 := A10.set 4 rfl (.dK (mergeK [] [(.inr "a", .int 1)]))
      revert A11
      generalize upd (upd H9 p3 (.dK [])) p3 (.dK (mergeK [] [(.inr "a", .int 1)])) = H11
      intro A11
      walk_at "rd"
      refine ⟨szl, fun p4 hp4 => A11.u2 hp4 fun H12 A12 => ?_⟩
      walk_at "rd"
      refine rd_next A12 0 rfl hs (by decide) fun s r H13 hs h0 h1 A13 => ?_
      have no : ∀ x ∈ [V.int (cell % 10 ^ Int.toNat 60), V.non, V.bl true, V.ref D, V.ref p2, V.ref p3, V.int 0, V.bl false], ∃ t, TyX K H13 x (.type t) ∧ kitB t "str" = some false := by
        intro x hx
        simp only [List.mem_cons, List.not_mem_nil, or_false] at hx
        rcases hx with rfl | rfl | rfl | rfl | rfl | rfl | rfl | rfl
        · exact ⟨"int", .base (.int _), by decide +kernel⟩
        · exact ⟨"NoneType", .base .non, by decide +kernel⟩
        · exact ⟨"bool", .base (.bl _), by decide +kernel⟩
        · exact ⟨"list", .base (.lst (A13.get 1 rfl)), by decide +kernel⟩
        · exact ⟨"tuple", .base (.tup (A13.get 3 rfl)), by decide +kernel⟩
        · exact ⟨"dict", .base (.dK (A13.get 4 rfl)), by decide +kernel⟩
        · exact ⟨"int", .base (.int _), by decide +kernel⟩
        · exact ⟨"bool", .base (.bl _), by decide +kernel⟩
      obtain ⟨x, hx, e⟩ := atI_ex (xs := [V.int (cell % 10 ^ Int.toNat 60), V.non, V.bl true, V.ref D, V.ref p2, V.ref p3, V.int 0, V.bl false]) h0 h1
      obtain ⟨t, ty, kit⟩ := no x hx
      refine rd_ixL (A13.lst 5 rfl) e ?_
      walk_at "rd"
      refine rd_noname A13 ty kit fun H14 A14 => ?_
      walk_at "rd"
      refine ⟨_, _, rfl, rfl, rd_bl ?_⟩
      refine rd_iteN (fun hne => absurd rfl hne) (fun _ => ?_)
      walk_at "rd"
      exact ⟨_, _, _, _, _, _, _, _, rfl, A14.take 0 (by simp)⟩
  · intro σ H1 _
    walk_at "rd"
    exact q H1
end
/-! ### what the top has left, the theorem -/
theorem all_mk {l : PySem.W.OpenLaw} {w : World} {K : PySem.W.Frag} {h : Heap} {mg : Str → Option Value} {fa : Addr} (X : K.In h) (G : h.Ns mainGlobals mg) (hfa : mg "law" = some (.ref fa))
    {f0 f1 f2 f3 : Addr}
    {od0 an0 od1 an1 od2 an2 od3 an3 : Option Addr} {sl0 sl1 sl2 sl3 : Array (Option Value)} {oc0 kV0 dc0 pm0 cd0 ct0 oc1 kV1 dc1 pm1 cd1 ct1 oc2 kV2 dc2 pm2 cd2 ct2 oc3 kV3 dc3 pm3 cd3 ct3 : Value}
    {tk0 : Tok}
    (a0 : PySem.W.nsIn K mainGlobals "is_name" = some (some (.ref f0))) (l0 : K.lookup f0 = some ⟨oc0, od0, .func (PySem.W.fnOf "is_name" "is_name" (defArgs sis_name) (defBody sis_name) (defScope sis_name) .none kV0 dc0 pm0 an0 cd0 ct0), sl0⟩) (c0 : PySem.W.codeIn K cd0 "is_name" = true) (k0 : PySem.W.keepIn K (.ref f0) = true)
    (a1 : PySem.W.nsIn K mainGlobals "_law_state" = some (some (.ref f1))) (l1 : K.lookup f1 = some ⟨oc1, od1, .func (PySem.W.fnOf "_law_state" "_law_state" (defArgs s_law_state) (defBody s_law_state) (defScope s_law_state) .none kV1 dc1 pm1 an1 cd1 ct1), sl1⟩) (c1 : PySem.W.codeIn K cd1 "_law_state" = true) (k1 : PySem.W.keepIn K (.ref f1) = true)
    (a2 : PySem.W.nsIn K mainGlobals "_law_next" = some (some (.ref f2))) (l2 : K.lookup f2 = some ⟨oc2, od2, .func (PySem.W.fnOf "_law_next" "_law_next" (defArgs s_law_next) (defBody s_law_next) (defScope s_law_next) .none kV2 dc2 pm2 an2 cd2 ct2), sl2⟩) (c2 : PySem.W.codeIn K cd2 "_law_next" = true) (k2 : PySem.W.keepIn K (.ref f2) = true)
    (a3 : PySem.W.nsIn K mainGlobals "law" = some (some (.ref f3))) (l3 : K.lookup f3 = some ⟨oc3, od3, .func (PySem.W.fnOf "law" "law" (defArgs slaw) (defBody slaw) (defScope slaw) .none kV3 dc3 pm3 an3 cd3 ct3), sl3⟩) (c3 : PySem.W.codeIn K cd3 "law" = true) (k3 : PySem.W.keepIn K (.ref f3) = true)
    (kc0 : PySem.W.nsIn K mainGlobals "LONGEST" = some (some (.int 8 tk0)))
    (z0 : PySem.W.nsIn K mainGlobals "len" = some none)
    (z1 : PySem.W.nsIn K mainGlobals "isinstance" = some none)
    (z2 : PySem.W.nsIn K mainGlobals "str" = some none)
    (z3 : PySem.W.nsIn K mainGlobals "all" = some none)
    (z4 : PySem.W.nsIn K mainGlobals "enumerate" = some none)
    (z5 : PySem.W.nsIn K mainGlobals "range" = some none)
    (z6 : PySem.W.nsIn K mainGlobals "bool" = some none)
    (z7 : PySem.W.nsIn K mainGlobals "tuple" = some none)
    (z8 : PySem.W.nsIn K mainGlobals "dict" = some none)
    (z9 : PySem.W.nsIn K mainGlobals "list" = some none)
    (z10 : PySem.W.nsIn K mainGlobals "sorted" = some none)
    (z11 : PySem.W.nsIn K mainGlobals "set" = some none)
    (z12 : PySem.W.nsIn K mainGlobals "zip" = some none)
    (z13 : PySem.W.nsIn K mainGlobals "int" = some none)
    (z14 : PySem.W.nsIn K mainGlobals "min" = some none)
    (z15 : PySem.W.nsIn K mainGlobals "repr" = some none)
    (z16 : PySem.W.nsIn K mainGlobals "ValueError" = some none)
    (z17 : PySem.W.nsIn K mainGlobals "super" = some none)
    : ∃ fd : FuncData, (∀ (s : Shared) (v : Value), BindsTo s fd ⟨[v], []⟩ [("_law_script", v)]) ∧ ∀ base : Heap, K.In base → base.Ns mainGlobals mg → FnOk l.prog w K mg base CX0 2 fa fd ["_law_script"] (spLaw K) := by
  have e := hfa.symm.trans (PySem.W.mg_of X G a3)
  cases e
  have B : Blt mg := blt_mk X G z0 z1 z2 z3 z4 z5 z6 z7 z8 z9 z10 z11 z12 z13 z14 z15 z16 z17
  have F0 := fun_mk (st := sis_name) l0 c0 k0
  have b0 := F0.binds (ps := ["thing"]) fun _ _ _ _ _ _ us hl => match us, hl with | [_], _ => rfl
  have m0 := PySem.W.mg_of X G a0
  have F1 := fun_mk (st := s_law_state) l1 c1 k1
  have b1 := F1.binds (ps := ["_law_cell", "_law_k"]) fun _ _ _ _ _ _ us hl => match us, hl with | [_, _], _ => rfl
  have m1 := PySem.W.mg_of X G a1
  have F2 := fun_mk (st := s_law_next) l2 c2 k2
  have b2 := F2.binds (ps := ["_law_state_here", "_law_size"]) fun _ _ _ _ _ _ us hl => match us, hl with | [_, _], _ => rfl
  have m2 := PySem.W.mg_of X G a2
  have F3 := fun_mk (st := slaw) l3 c3 k3
  have gc0 : ∃ t, mg "LONGEST" = some (.int 8 t) := ⟨_, PySem.W.mg_of X G kc0⟩
  refine ⟨PySem.W.fnOf "law" "law" (defArgs slaw) (defBody slaw) (defScope slaw) .none kV3 dc3 pm3 an3 cd3 ct3, fun s v => .of_eq rfl, fun base _ _ => ?_⟩
  have GS := ok_state (P := l.prog) (w := w) (K := K) (mg := mg) (base := base) F1
  have GN := ok_next (P := l.prog) (w := w) (K := K) (mg := mg) (base := base) F2
  have GI := ok_is_name (P := l.prog) (w := w) (K := K) (mg := mg) (base := base) F0 B gc0
  exact ok_law F3 B ⟨⟨_, _, _, GS, m1, k1, b1⟩, ⟨_, _, _, GN, m2, k2, b2⟩, ⟨_, _, _, GI, m0, k0, b0⟩⟩
end Nn
open PySem PySem.W PyProof.Rows
set_option maxRecDepth 100000 in
set_option maxHeartbeats 0 in
theorem PySem.Challenge.cw_newnames_k01_names_holds : PySem.Challenge.rw_newnames_k01_names.Holds := by
  w_on; o_law; k_head; (case hw => w_witness2)
  k_fill
  refine L2.walk_of (l := PySem.Challenge.rw_newnames_k01_names) (n := 63) (k := 2) (x := "_law_script") (CX := fun _ => L2.CX0) (sp := fun w => Nn.spLaw _) rfl (by decide) rfl ⟨rfl, by decide, by decide⟩ (fun w h Y => PySem.W.kIn_of Y) ?F (fun _ _ a ns hl _ hS => ⟨a, ns, rfl, hS, hl, fun _ => rfl⟩) (fun _ _ _ _ _ h => h)
  case F =>
    intro w mg fa h KX G hmg
    refine' Nn.all_mk KX G hmg ?a0 ?l0 ?c0 ?k0 ?a1 ?l1 ?c1 ?k1 ?a2 ?l2 ?c2 ?k2 ?a3 ?l3 ?c3 ?k3 ?kc0 ?z0 ?z1 ?z2 ?z3 ?z4 ?z5 ?z6 ?z7 ?z8 ?z9 ?z10 ?z11 ?z12 ?z13 ?z14 ?z15 ?z16 ?z17
    (case a0 => k_is)
    (case l0 => k_is)
    (case c0 => k_is)
    (case k0 => k_is)
    (case a1 => k_is)
    (case l1 => k_is)
    (case c1 => k_is)
    (case k1 => k_is)
    (case a2 => k_is)
    (case l2 => k_is)
    (case c2 => k_is)
    (case k2 => k_is)
    (case a3 => k_is)
    (case l3 => k_is)
    (case c3 => k_is)
    (case k3 => k_is)
    (case kc0 => k_is)
    (case z0 => k_is)
    (case z1 => k_is)
    (case z2 => k_is)
    (case z3 => k_is)
    (case z4 => k_is)
    (case z5 => k_is)
    (case z6 => k_is)
    (case z7 => k_is)
    (case z8 => k_is)
    (case z9 => k_is)
    (case z10 => k_is)
    (case z11 => k_is)
    (case z12 => k_is)
    (case z13 => k_is)
    (case z14 => k_is)
    (case z15 => k_is)
    (case z16 => k_is)
    (case z17 => k_is)
