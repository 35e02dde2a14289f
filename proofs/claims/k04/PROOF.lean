import PyProof.Rows.All
import Wide.All
import OpenK.AllK
import Wide.FinOn
import HandS.ForMost
import HandS.IsInst
import HandS.TupLe
import HandS.TupAny
import HandS.Walk
import HandS.Flow
import HandS.Codes
import HandS.More
import HandS.Evl
import HandS.SetKeys
import HandS.NoneIn
import HandS.DictComp
import HandS.ListItems
import HandS.Zip
import PySem.Challenge.RW_newnames_k04_rings
set_option Elab.async false
set_option linter.all false
set_option maxRecDepth 100000
set_option maxHeartbeats 4000000
namespace Nn
open PySem PySem.Spec PyProof.Rows L2

/-! ### the ledger: what a def's body knows of the heap -/
/-- M: addresses of the entry's heap H0 that the body may change; L: objects known now (new ones, and those of M); T: objects made since, that never change -/
structure At (M : List Addr) (H0 H : Hp) (L T : List (Addr × HO)) : Prop where
  base : ∀ a o, H0 a = some o → a ∉ M → H a = some o
  nd : (L.map Prod.fst).Nodup
  mem : ∀ e ∈ L, H e.1 = some e.2
  own : ∀ e ∈ L, H0 e.1 = none ∨ e.1 ∈ M
  mL : ∀ a ∈ M, a ∈ L.map Prod.fst
  tm : ∀ e ∈ T, H e.1 = some e.2
  td : ∀ e ∈ T, e.1 ∉ L.map Prod.fst
  tn : ∀ e ∈ T, H0 e.1 = none

/-- all but what stands in N is kept -/
def Kp (N : List Addr) (H H' : Hp) : Prop := ∀ a o, H a = some o → a ∉ N → H' a = some o
theorem Kp.refl {N : List Addr} (H : Hp) : Kp N H H := fun _ _ h _ => h
theorem Kp.same {H H' : Hp} (k : Kp [] H H') : Same H H' := fun a o h => k a o h (by simp)
theorem Kp.of {H H' : Hp} (k : Same H H') : Kp [] H H' := fun a o h _ => k a o h
theorem Kp.seq {K : PySem.W.Frag} {N : List Addr} {H H' : Hp} {a : Addr} {xs : List V} (k : Kp N H H') (h : SqL K H a xs) (hn : a ∉ N) : SqL K H' a xs := by
  rcases h with (h | ⟨o, h⟩) | h
  · exact .inl (.inl (k _ _ h hn))
  · exact .inl (.inr ⟨o, k _ _ h hn⟩)
  · exact .inr h
theorem Kp.sqt {K : PySem.W.Frag} {N : List Addr} {H H' : Hp} {a : Addr} {xs : List V} (k : Kp N H H') (h : SqT K H a xs) (hn : a ∉ N) : SqT K H' a xs := by
  rcases h with (h | ⟨o, h⟩) | h
  · exact .inl (.inl (k _ _ h hn))
  · exact .inl (.inr ⟨o, k _ _ h hn⟩)
  · exact .inr h
/-- one new object, not looked at again -/
def Sk (H H' : Hp) : Prop := H' = H ∨ ∃ p o, H p = none ∧ H' = upd H p o
theorem Sk.of {H : Hp} {p : Addr} {o : HO} (h : H p = none) : Sk H (upd H p o) := .inr ⟨p, o, h, rfl⟩
theorem Sk.rf {H : Hp} : Sk H H := .inl rfl

section
variable {M : List Addr} {H0 H H' : Hp} {L L' T N : List (Addr × HO)} {p : Addr} {o o' : HO} {i : Nat}
theorem At.nil (H : Hp) : At [] H H [] [] := ⟨fun _ _ h _ => h, List.nodup_nil, by simp, by simp, by simp, by simp, by simp, by simp⟩
theorem At.one (h : H p = some o) : At [p] H H [(p, o)] [] := ⟨fun _ _ h _ => h, by simp, by simpa using h, by simp, by simp, by simp, by simp, by simp⟩
theorem At.two {q : Addr} (h : H p = some o) (h' : H q = some o') (ne : p ≠ q) : At [p, q] H H [(p, o), (q, o')] [] :=
  ⟨fun _ _ h _ => h, by simpa using ne, by intro e he; simp only [List.mem_cons, List.not_mem_nil, or_false] at he; rcases he with rfl | rfl <;> assumption, by intro e he; simp only [List.mem_cons, List.not_mem_nil, or_false] at he; rcases he with rfl | rfl <;> simp, by simp, by simp, by simp, by simp⟩
theorem At.in (A : At M H0 H L T) (h : L[i]? = some (p, o)) : H p = some o := A.mem _ (List.mem_of_getElem? h)
theorem At.get (A : At M H0 H L T) (i : Nat) (h : L[i]? = some (p, o)) : H p = some o := A.in h
theorem At.keep (A : At M H0 H L T) : Kp M H0 H := A.base
theorem At.fresh (A : At M H0 H L T) (h : H p = none) : p ∉ L.map Prod.fst := fun hm => by
  obtain ⟨e, he, rfl⟩ := List.mem_map.mp hm
  rw [A.mem e he] at h
  cases h
theorem At.fresh0 (A : At M H0 H L T) (h : H p = none) : H0 p = none := by
  by_cases hM : p ∈ M
  · exact absurd (A.mL p hM) (A.fresh h)
  · cases e : H0 p with
    | none => rfl
    | some o =>
      rw [A.base p o e hM] at h
      cases h
theorem At.freshT (A : At M H0 H L T) (h : H p = none) : ∀ e ∈ T, e.1 ≠ p := fun e he q => by
  rw [← q, A.tm e he] at h
  cases h
/-- is new against the entry -/
theorem At.new0 (A : At M H0 H L T) (i : Nat) (h : L[i]? = some (p, o)) (hM : p ∉ M) : H0 p = none := (A.own _ (List.mem_of_getElem? h)).resolve_right hM
theorem At.skip (A : At M H0 H L T) (s : Sk H H') : At M H0 H' L T := by
  rcases s with rfl | ⟨p, o, h, rfl⟩
  · exact A
  · refine ⟨fun a u e hM => ?_, A.nd, fun e he => ?_, A.own, A.mL, fun e he => ?_, A.td, A.tn⟩
    · rw [upd_ne (ne_of_none (A.base a u e hM) h)]; exact A.base a u e hM
    · rw [upd_ne (ne_of_none (A.mem e he) h)]; exact A.mem e he
    · rw [upd_ne (ne_of_none (A.tm e he) h)]; exact A.tm e he
theorem At.snoc (A : At M H0 H L T) (h : H p = none) (o : HO) : At M H0 (upd H p o) (L ++ [(p, o)]) T := by
  have B := A.skip (Sk.of (o := o) h)
  have fr := A.fresh h
  refine ⟨B.base, ?_, ?_, ?_, ?_, B.tm, ?_, B.tn⟩
  · rw [List.map_append, List.nodup_append]
    refine ⟨A.nd, by simp, ?_⟩
    intro a ha b hb e
    rw [List.map_singleton, List.mem_singleton] at hb
    subst e; subst hb
    exact fr ha
  · intro e he
    rcases List.mem_append.mp he with he | he
    · exact B.mem e he
    · rw [List.mem_singleton] at he; subst he; exact upd_same
  · intro e he
    rcases List.mem_append.mp he with he | he
    · exact A.own e he
    · rw [List.mem_singleton] at he; subst he; exact .inl (A.fresh0 h)
  · intro a ha
    rw [List.map_append]
    exact List.mem_append_left _ (A.mL a ha)
  · intro e he
    rw [List.map_append, List.mem_append]
    rintro (q | q)
    · exact A.td e he q
    · rw [List.map_singleton, List.mem_singleton] at q; exact A.freshT h e he q
theorem At.snocT (A : At M H0 H L T) (h : H p = none) (o : HO) : At M H0 (upd H p o) L (T ++ [(p, o)]) := by
  have B := A.skip (Sk.of (o := o) h)
  refine ⟨B.base, A.nd, B.mem, A.own, A.mL, ?_, ?_, ?_⟩
  · intro e he
    rcases List.mem_append.mp he with he | he
    · exact B.tm e he
    · rw [List.mem_singleton] at he; subst he; exact upd_same
  · intro e he
    rcases List.mem_append.mp he with he | he
    · exact A.td e he
    · rw [List.mem_singleton] at he; subst he; exact A.fresh h
  · intro e he
    rcases List.mem_append.mp he with he | he
    · exact A.tn e he
    · rw [List.mem_singleton] at he; subst he; exact A.fresh0 h
theorem map_set_fst (L : List (Addr × HO)) (i : Nat) (h : L[i]? = some (p, o)) : (L.set i (p, o')).map Prod.fst = L.map Prod.fst := by
  rw [List.map_set]
  refine List.ext_getElem? fun j => ?_
  rw [List.getElem?_set]
  split
  · rename_i e
    subst e
    obtain ⟨hi, e1⟩ := List.getElem?_eq_some_iff.mp h
    rw [List.length_map, if_pos hi, List.getElem?_map, h]
    rfl
  · rfl
/-- what is known changes, the addresses stay -/
theorem At.chg (A : At M H0 H L T) {N : List Addr} (k : Kp N H H') (hN : ∀ a ∈ N, a ∈ L.map Prod.fst) (e : L'.map Prod.fst = L.map Prod.fst) (hm : ∀ e ∈ L', H' e.1 = some e.2) (hNM : ∀ a ∈ N, H0 a = none ∨ a ∈ M) : At M H0 H' L' T := by
  refine ⟨fun a u q hM => k a u (A.base a u q hM) fun hn => ?_, e ▸ A.nd, hm, fun x hx => ?_, fun a ha => e ▸ A.mL a ha, fun x hx => k _ _ (A.tm x hx) fun hn => A.td x hx (hN _ hn), fun x hx => e ▸ A.td x hx, A.tn⟩
  · rcases hNM a hn with z | z
    · rw [q] at z; cases z
    · exact hM z
  · have : x.1 ∈ L.map Prod.fst := e ▸ List.mem_map_of_mem (f := Prod.fst) hx
    obtain ⟨y, hy, ey⟩ := List.mem_map.mp this
    rw [← ey]
    exact A.own y hy
theorem mem_set_cases {x : Addr × HO} (h : L[i]? = some (p, o)) (nd : (L.map Prod.fst).Nodup) (hx : x ∈ L.set i (p, o')) : x = (p, o') ∨ (x ∈ L ∧ x.1 ≠ p) := by
  obtain ⟨j, hj⟩ := List.getElem?_of_mem hx
  rw [List.getElem?_set] at hj
  split at hj
  · split at hj
    · exact .inl (Option.some.inj hj).symm
    · cases hj
  · rename_i ne
    refine .inr ⟨List.mem_of_getElem? hj, fun q => ne ?_⟩
    have a1 : (L.map Prod.fst)[i]? = some p := by rw [List.getElem?_map, h]; rfl
    have a2 : (L.map Prod.fst)[j]? = some p := by rw [List.getElem?_map, hj]; exact congrArg some q
    exact nd_ix nd a1 a2
/-- a callee changed the object at place i alone -/
theorem At.c1 (A : At M H0 H L T) (i : Nat) (h : L[i]? = some (p, o)) (k : Kp [p] H H') (hp : H' p = some o') : At M H0 H' (L.set i (p, o')) T := by
  have hm : p ∈ L.map Prod.fst := List.mem_map_of_mem (f := Prod.fst) (List.mem_of_getElem? h)
  refine A.chg k (fun a ha => by rw [List.mem_singleton] at ha; exact ha ▸ hm) (map_set_fst L i h) (fun x hx => ?_) (fun a ha => by rw [List.mem_singleton] at ha; subst ha; exact A.own _ (List.mem_of_getElem? h))
  rcases mem_set_cases h A.nd hx with rfl | ⟨hx, ne⟩
  · exact hp
  · exact k _ _ (A.mem x hx) (by rw [List.mem_singleton]; exact ne)
theorem At.c0 (A : At M H0 H L T) (k : Kp [] H H') : At M H0 H' L T := A.chg k (by simp) rfl (fun x hx => k _ _ (A.mem x hx) (by simp)) (by simp)
theorem At.set (A : At M H0 H L T) (i : Nat) (h : L[i]? = some (p, o)) (o' : HO) : At M H0 (upd H p o') (L.set i (p, o')) T :=
  A.c1 i h (fun a u e hn => by rw [upd_ne (by simpa using hn)]; exact e) upd_same
/-- a callee made the object at p -/
theorem At.add (A : At M H0 H L T) (A' : At M H0 H' L' T) (e : L'.map Prod.fst = L.map Prod.fst) (h : H p = none) (hp : H' p = some o) : At M H0 H' (L' ++ [(p, o)]) T := by
  have fr := A.fresh h
  refine ⟨A'.base, ?_, ?_, ?_, ?_, A'.tm, ?_, A'.tn⟩
  · rw [List.map_append, List.nodup_append]
    refine ⟨A'.nd, by simp, ?_⟩
    intro a ha b hb q
    rw [List.map_singleton, List.mem_singleton] at hb
    subst q; subst hb
    exact fr (e ▸ ha)
  · intro x he
    rcases List.mem_append.mp he with he | he
    · exact A'.mem x he
    · rw [List.mem_singleton] at he; subst he; exact hp
  · intro x he
    rcases List.mem_append.mp he with he | he
    · exact A'.own x he
    · rw [List.mem_singleton] at he; subst he; exact .inl (A.fresh0 h)
  · intro a ha
    rw [List.map_append]
    exact List.mem_append_left _ (A'.mL a ha)
  · intro x he
    rw [List.map_append, List.mem_append]
    rintro (q | q)
    · exact A'.td x he q
    · rw [List.map_singleton, List.mem_singleton] at q; exact A.freshT h x he q
theorem At.addT (A : At M H0 H L T) (A' : At M H0 H' L' T) (e : L'.map Prod.fst = L.map Prod.fst) (N : List (Addr × HO)) (h : ∀ x ∈ N, H x.1 = none ∧ H' x.1 = some x.2) : At M H0 H' L' (T ++ N) := by
  refine ⟨A'.base, A'.nd, A'.mem, A'.own, A'.mL, ?_, ?_, ?_⟩
  · intro x he
    rcases List.mem_append.mp he with he | he
    · exact A'.tm x he
    · exact (h x he).2
  · intro x he
    rcases List.mem_append.mp he with he | he
    · exact A'.td x he
    · rw [e]; exact A.fresh (h x he).1
  · intro x he
    rcases List.mem_append.mp he with he | he
    · exact A'.tn x he
    · exact A.fresh0 (h x he).1
/-- the later entries forgotten -/
theorem At.take (A : At M H0 H L T) (n : Nat) (hM : ∀ a ∈ M, a ∈ (L.take n).map Prod.fst) : At M H0 H (L.take n) T :=
  ⟨A.base, A.nd.sublist ((List.take_sublist n L).map _), fun e he => A.mem e (List.mem_of_mem_take he), fun e he => A.own e (List.mem_of_mem_take he), hM, A.tm,
    fun e he q => A.td e he (((List.take_sublist n L).map _).subset q), A.tn⟩
theorem At.sub (A : At M H0 H L T) (hs : List.Sublist L' L) (hM : ∀ a ∈ M, a ∈ L'.map Prod.fst) : At M H0 H L' T :=
  ⟨A.base, A.nd.sublist (hs.map _), fun e he => A.mem e (hs.subset he), fun e he => A.own e (hs.subset he), hM, A.tm, fun e he q => A.td e he ((hs.map _).subset q), A.tn⟩
theorem At.sel (A : At M H0 H L T) (hM : ∀ a ∈ M, a ∈ L'.map Prod.fst) (hs : List.Sublist L' L) : At M H0 H L' T := A.sub hs hM
theorem At.selT (A : At M H0 H L T) (N : List (Addr × HO)) (h : ∀ x ∈ N, x ∈ T) : At M H0 H L N := ⟨A.base, A.nd, A.mem, A.own, A.mL, fun e he => A.tm e (h e he), fun e he => A.td e (h e he), fun e he => A.tn e (h e he)⟩
theorem At.lst {K : PySem.W.Frag} {xs : List V} (A : At M H0 H L T) (i : Nat) (h : L[i]? = some (p, .lst xs)) : SqL K H p xs := .inl (.inl (A.in h))
theorem At.tup {K : PySem.W.Frag} {xs : List V} (A : At M H0 H L T) (i : Nat) (h : L[i]? = some (p, .tup xs)) : SqT K H p xs := .inl (.inl (A.in h))
theorem At.sq {K : PySem.W.Frag} {xs : List V} (A : At M H0 H L T) (h : SqL K H0 p xs) (hM : p ∉ M) : SqL K H p xs := A.keep.seq h hM
theorem At.st {K : PySem.W.Frag} {xs : List V} (A : At M H0 H L T) (h : SqT K H0 p xs) (hM : p ∉ M) : SqT K H p xs := A.keep.sqt h hM
theorem At.ne (A : At M H0 H L T) {q : Addr} {u : HO} (i j : Nat) (h : L[i]? = some (p, o)) (h' : L[j]? = some (q, u)) (hij : i ≠ j) : p ≠ q := fun e => by
  subst e
  exact hij (nd_ix A.nd (x := p) (by rw [List.getElem?_map, h]; rfl) (by rw [List.getElem?_map, h']; rfl))
end

/-! the changed heap as a letter: the reading behind it is f of the heap (u: a new object; s: an object set; t: a new object that stays; n: a new one not looked at) -/
section
variable {M : List Addr} {H0 H : Hp} {L T : List (Addr × HO)} {p : Addr} {o o' : HO} {α β : Sort _} {f1 : Hp → Prop} {f2 : Hp → α → Prop} {f3 : Hp → α → β → Prop} {q : α} {r : β}
theorem At.u1 (A : At M H0 H L T) (h : H p = none) (k : ∀ H', At M H0 H' (L ++ [(p, o)]) T → f1 H') : f1 (upd H p o) := k _ (A.snoc h o)
theorem At.u2 (A : At M H0 H L T) (h : H p = none) (k : ∀ H', At M H0 H' (L ++ [(p, o)]) T → f2 H' q) : f2 (upd H p o) q := k _ (A.snoc h o)
theorem At.s1 (A : At M H0 H L T) (i : Nat) (h : L[i]? = some (p, o)) (k : ∀ H', At M H0 H' (L.set i (p, o')) T → f1 H') : f1 (upd H p o') := k _ (A.set i h o')
theorem At.s2 (A : At M H0 H L T) (i : Nat) (h : L[i]? = some (p, o)) (k : ∀ H', At M H0 H' (L.set i (p, o')) T → f2 H' q) : f2 (upd H p o') q := k _ (A.set i h o')
theorem At.t1 (A : At M H0 H L T) (h : H p = none) (k : ∀ H', At M H0 H' L (T ++ [(p, o)]) → f1 H') : f1 (upd H p o) := k _ (A.snocT h o)
theorem At.t2 (A : At M H0 H L T) (h : H p = none) (k : ∀ H', At M H0 H' L (T ++ [(p, o)]) → f2 H' q) : f2 (upd H p o) q := k _ (A.snocT h o)
theorem At.n1 (A : At M H0 H L T) (h : H p = none) (k : ∀ H', At M H0 H' L T → f1 H') : f1 (upd H p o) := k _ (A.skip (Sk.of h))
theorem At.n2 (A : At M H0 H L T) (h : H p = none) (k : ∀ H', At M H0 H' L T → f2 H' q) : f2 (upd H p o) q := k _ (A.skip (Sk.of h))
end
/-! ### calls of the text's own defs -/
structure Cl (P : Program) (w : World) (K : PySem.W.Frag) (mg : Str → Option Value) (base : Heap) (k : Nat) (x : Str) (sp : Sp) : Prop where
  ex : ∃ (f : Addr) (fd : FuncData) (ps : List Str), FnOk P w K mg base CX0 k f fd ps sp ∧ mg x = some (.ref f) ∧ PySem.W.keepIn K (.ref f) = true ∧ Binds K fd ps []
section
variable {X : Cx} {k j : Nat} {x : Str} {sp : Sp} {p pos : Pos} {e : Expr} {es : List Expr} {t : TA}
theorem pe_cl (c : Cl X.prog X.w X.K X.mg X.base k x sp) (hr : Room j X.A) (hk : k ≤ j) (hg : Gl X x) (ha : PA X (e :: es) t)
    (hdb : (x == ("__debug__" : Str)) = false := by decide) (he : starEach (e :: es) X.env = (false, eval e X.env) :: starEach es X.env := by rfl) (hpl : (backTo pos (starEach es X.env)).any (·.1) = false := by rfl) :
    PE X (.Call (.Name x p) (e :: es) [] pos) (tCall sp [] E0 t) := by
  obtain ⟨f, fd, ps, F, hm, kp, b⟩ := c.ex
  exact pe_call F (hr.mono hk) hg hm kp b .nil pass0 ha hdb he hpl
end

section
variable {X : Cx} {x : Str} {pos : Pos}
theorem pe_ty {T : String} (hg : Gl X x) (hm : X.mg x = none) (hv : bootBuiltins x = some (.type T)) (hn : x ≠ "__name__" := by decide) (hd : (x == ("__debug__" : Str)) = false := by decide) : PE X (.Name x pos) (tC (.ty T)) := pe_bltn hg hm hv rfl hn hd
theorem pe_gint {i : Int} (hg : Gl X x) (h : ∃ t, X.mg x = some (.int i t)) (hd : (x == ("__debug__" : Str)) = false := by decide) : PE X (.Name x pos) (tC (.int i)) := by
  obtain ⟨t, h⟩ := h
  exact pe_glob hg h ⟨t, rfl⟩ hd
theorem pe_gref {a : Addr} (hg : Gl X x) (h : X.mg x = some (.ref a)) (hd : (x == ("__debug__" : Str)) = false := by decide) : PE X (.Name x pos) (tC (.ref a)) := pe_glob hg h rfl hd
end
/-! within a comprehension's block: K as it is in the def -/
section
variable {X : Cx} {K : PySem.W.Frag}
theorem ix_list' (h : X.K = K) : IxR X (rIxL K) := h ▸ ix_list
theorem ix_tup' (h : X.K = K) : IxR X (rIxT K) := h ▸ ix_tup
theorem sl_list' (h : X.K = K) : SlR X (rSlL K) := h ▸ sl_list
theorem op_in_seq' (h : X.K = K) : OpR X (compareOp .In) (rIn K false) := h ▸ op_in_seq
theorem op_notIn_seq' (h : X.K = K) : OpR X (compareOp .NotIn) (rIn K true) := h ▸ op_notIn_seq
theorem op_eqD' (h : X.K = K) (hu : X.A.units + 64 < cLine) : OpR X (compareOp .Eq) (rEqD K) := h ▸ op_eqD hu
theorem op_neD' (h : X.K = K) (hu : X.A.units + 64 < cLine) : OpR X (compareOp .NotEq) (rNeD K) := h ▸ op_neD hu
theorem call_isi' (h : X.K = K) : CallR X (.builtin "isinstance") (rIsi K) := h ▸ call_isi
theorem pe_fld' {e : Expr} {f : Str} {pos : Pos} {ta : TE} (h : X.K = K) (he : PE X e ta) (hb : attributeBase e f X.env (eval e X.env) = eval e X.env) : PE X (.Attribute e f pos) (tFld K ta f) := h ▸ pe_fld he hb
theorem pg_tup' {pos : Pos} {es : List Expr} {k : Nat} {t : TGs} {n : Nat} (hK : X.K = K) (hc : X.calm = true) (h : PGs X es t)
    (hn : (assignEach es X.env).length = n := by rfl) (hst : (assignEach es X.env).findIdx? (·.1) = none := by rfl) : PG X (.Tuple es k pos) (gTup K n t) := hK ▸ pg_tup hc h hn hst
end
/-! ### readings, one step each -/
section
variable {σ : L2.St} {H : Hp} {Q : VK} {ta tb tc te : TE} {r r' : R2} {v x y : V} {K : PySem.W.Frag} {g : TG} {t u : TS} {c c' : TT} {n bk ct : L2.St → Hp → Prop} {rt : VK} {QT : Bool → Hp → Prop} {QA : List V → Hp → Prop} {tr : TA}
theorem rd_var {i : Nat} (h : σ[i]? = some (some v)) (k : Q v H) : tVar i σ H Q := ⟨v, h, k⟩
theorem rd_c (k : Q v H) : tC v σ H Q := k
theorem rd_op (k : ta σ H fun x H1 => tb σ H1 fun y H2 => r x y H2 Q) : tOp r ta tb σ H Q := k
theorem rd_un {r : V → Hp → VK → Prop} (k : ta σ H fun x H1 => r x H1 Q) : tUn r ta σ H Q := k
theorem rd_I0 {f : Int → Int → V} {i j : Int} (k : Q (f i j) H) : rI0 f (.int i) (.int j) H Q := ⟨i, j, rfl, rfl, k⟩
theorem rd_I {C : Int → Int → Prop} {f : Int → Int → V} {i j : Int} (c : C i j) (k : Q (f i j) H) : rI C f (.int i) (.int j) H Q := ⟨i, j, rfl, rfl, c, k⟩
theorem rd_mul {i j : Int} (c : CMul i j) (k : Q (.int (i * j)) H) : rI CMul (fun i j => .int (i * j)) (.int i) (.int j) H Q := ⟨i, j, rfl, rfl, c, k⟩
theorem rd_mod {i j : Int} (c : 0 < j) (k : Q (.int (i % j)) H) : rI (fun _ j => 0 < j) (fun i j => .int (i % j)) (.int i) (.int j) H Q := ⟨i, j, rfl, rfl, c, k⟩
theorem rd_fdiv {i j : Int} (c : CDiv i j) (k : Q (.int (i / j)) H) : rI CDiv (fun i j => .int (i / j)) (.int i) (.int j) H Q := ⟨i, j, rfl, rfl, c, k⟩
theorem rd_pow {i j : Int} (c : CPow i j) (k : Q (.int (i ^ j.toNat)) H) : rI CPow (fun i j => .int (i ^ j.toNat)) (.int i) (.int j) H Q := ⟨i, j, rfl, rfl, c, k⟩
theorem rd_U {f : Int → V} {i : Int} (k : Q (f i) H) : rU f (.int i) H Q := ⟨i, rfl, k⟩
theorem rd_eq (h : scal x y = true) (k : Q (.bl (decide (x = y))) H) : rEq x y H Q := ⟨h, k⟩
theorem rd_ne (h : scal x y = true) (k : Q (.bl (!decide (x = y))) H) : rNe x y H Q := ⟨h, k⟩
theorem rd_test (k : te σ H fun x H' => ∃ k, x = .bl k ∧ QT k H') : tTest te σ H QT := k
theorem rd_B (k : te σ H fun x H' => ∃ k, x = .bl k ∧ QT k H') : tB te σ H QT := k
theorem rd_bl {b : Bool} {R : Bool → Prop} (k : R b) : ∃ c, V.bl b = .bl c ∧ R c := ⟨b, rfl, k⟩
theorem rd_and (k : c σ H fun b H1 => if b = true then c' σ H1 QT else QT false H1) : tAnd c c' σ H QT := k
theorem rd_or (k : c σ H fun b H1 => if b = true then QT true H1 else c' σ H1 QT) : tOr c c' σ H QT := k
theorem rd_yes (k : QT true H) : tYes σ H QT := k
theorem rd_not (k : c σ H fun b H1 => QT (!b) H1) : tNot c σ H QT := k
theorem rd_andV (k : ta σ H fun x H1 => ∃ b, x = .bl b ∧ if b = true then tb σ H1 Q else Q (.bl false) H1) : tAndV ta tb σ H Q := k
theorem rd_orV (k : ta σ H fun x H1 => ∃ b, x = .bl b ∧ if b = true then Q (.bl true) H1 else tb σ H1 Q) : tOrV ta tb σ H Q := k
theorem rd_notV (k : ta σ H fun x H1 => ∃ b, x = .bl b ∧ Q (.bl (!b)) H1) : tNotV ta σ H Q := k
theorem rd_ifE (k : c σ H fun b H1 => if b = true then ta σ H1 Q else tb σ H1 Q) : tIf c ta tb σ H Q := k
theorem rd_chain (k : ta σ H fun x H1 => tb σ H1 fun y H2 => r x y H2 fun z H3 => ∃ k, z = .bl k ∧ (if k = true then tc σ H3 fun w' H4 => r' y w' H4 Q else Q (.bl false) H3)) : tChain r r' ta tb tc σ H Q := k
theorem rd_cons (k : ta σ H fun x H1 => tr σ H1 fun xs H2 => QA (x :: xs) H2) : tCons ta tr σ H QA := k
theorem rd_nil (k : QA [] H) : tNil σ H QA := k
theorem rd_call {sp : Sp} {E : XK} {dvs : List V} (k : tr σ H fun vs H1 => sp (vs ++ dvs) H1 Q E) : tCall sp dvs E tr σ H Q := k
theorem rd_cb {r : List V → Hp → VK → Prop} (k : tr σ H fun vs H1 => r vs H1 Q) : tCB r tr σ H Q := k
theorem rd_tup (k : tr σ H fun xs H1 => xs.length ≤ sizeLine ∧ ∀ p, H1 p = none → Q (.ref p) (upd H1 p (.tup xs))) : tTup tr σ H Q := k
theorem rd_lst (k : tr σ H fun xs H1 => xs.length ≤ sizeLine ∧ ∀ p, H1 p = none → Q (.ref p) (upd H1 p (.lst xs))) : tLst tr σ H Q := k
theorem rd_bm0 {T : String} {r : V → List V → Hp → VK → Prop} (k : te σ H fun x H1 => tyV K T x H1 ∧ r x [] H1 Q) : tBM0 K T r te σ H Q := k
theorem rd_bm {T : String} {r : V → List V → Hp → VK → Prop} (k : te σ H fun x H1 => tyV K T x H1 ∧ tr σ H1 fun xs H2 => r x xs H2 Q) : tBM K T r te tr σ H Q := k
theorem rd_m1 {r : V → List V → Hp → VK → Prop} (k : ta σ H fun x H1 => (∃ a, x = .str a) ∧ tb σ H1 fun y H2 => r x [y] H2 Q) : tM1 r ta tb σ H Q := k
theorem rd_sl {rs : V → Option Int → Option Int → Hp → VK → Prop} {tl th : TO} (k : te σ H fun x H1 => tl σ H1 fun lo H2 => th σ H2 fun hi H3 => rs x lo hi H3 Q) : tSl rs te tl th σ H Q := k
theorem rd_po0 {QO : Option Int → Hp → Prop} (k : QO none H) : tNoPart σ H QO := k
theorem rd_po1 {QO : Option Int → Hp → Prop} (k : te σ H fun x H1 => ∃ i, x = .int i ∧ QO (some i) H1) : tPart te σ H QO := k
theorem rd_in {i : Int} {R : Int → Prop} (k : R i) : ∃ j, V.int i = .int j ∧ R j := ⟨i, rfl, k⟩
theorem rd_dni {td ty : TE} (k : ty σ H fun y H1 => td σ H1 fun x H2 => ∃ a o, x = .ref a ∧ DGet H2 a y o ∧ Q (.bl (!o.isSome)) H2) : tDNotIn ty td σ H Q := k
theorem rd_di {td ty : TE} (k : ty σ H fun y H1 => td σ H1 fun x H2 => ∃ a o, x = .ref a ∧ DGet H2 a y o ∧ Q (.bl o.isSome) H2) : tDIn ty td σ H Q := k
theorem rd_dget {td ty : TE} (k : td σ H fun x H1 => ty σ H1 fun y H2 => ∃ a v, x = .ref a ∧ DGet H2 a y (some v) ∧ Q v H2) : tDGet td ty σ H Q := k
theorem rd_dget1 {td ty : TE} (k : td σ H fun x H1 => ∃ a, x = .ref a ∧ IsD H1 a ∧ ty σ H1 fun y H2 => ∃ o, DGet H2 a y o ∧ Q (o.getD .non) H2) : tDGet1 td ty σ H Q := k
theorem rd_dget2 {td ty tx : TE} (k : td σ H fun x H1 => ∃ a, x = .ref a ∧ IsD H1 a ∧ ty σ H1 fun y H2 => tx σ H2 fun z H3 => ∃ o, DGet H3 a y o ∧ Q (o.getD z) H3) : tDGet2 td ty tx σ H Q := k
theorem rd_dput {td ty tv : TE} (k : tv σ H fun v H1 => td σ H1 fun x H2 => ty σ H2 fun y H3 => ∃ a H4, x = .ref a ∧ DPut H3 a y v H4 ∧ n σ H4) : sDPut td ty tv ⟨n, rt, bk, ct⟩ σ H := k
theorem rd_dnew (k : ∀ p, H p = none → Q (.ref p) (upd H p (.dK []))) : tDNewK σ H Q := k
theorem rd_ikeys {td : TE} {R : It → Hp → Prop} (k : td σ H fun x H1 => ∃ d o, x = .ref d ∧ ((∃ kvs, H1 d = some (.frz o (.dK kvs)) ∧ R (Itk d o kvs) H1) ∨ ∃ kvs, H1 d = some (.frz o (.dT kvs)) ∧ R (Itkt d o kvs) H1)) : iKeys td σ H R := k
-- statements
theorem rd_lock {d : Addr} {u : HO} {t : TS} (hd : H d = some u) (mu : Mut (some u)) (k : ∀ od, t ⟨fun σ' H' => H' d = some (.frz od u) ∧ n σ' (upd H' d u), fun v H' => H' d = some (.frz od u) ∧ rt v (upd H' d u), fun σ' H' => H' d = some (.frz od u) ∧ bk σ' (upd H' d u), fun σ' H' => H' d = some (.frz od u) ∧ ct σ' (upd H' d u)⟩ σ (upd H d (.frz od u))) : tLock t ⟨n, rt, bk, ct⟩ σ H := ⟨d, u, hd, mu, k⟩
theorem rd_lockE {d : Addr} {u : HO} {t : TE} (hd : H d = some u) (mu : Mut (some u)) (k : ∀ od, t σ (upd H d (.frz od u)) fun v H' => H' d = some (.frz od u) ∧ Q v (upd H' d u)) : tLockE t σ H Q := ⟨d, u, hd, mu, k⟩
theorem rd_seq (k : t ⟨u ⟨n, rt, bk, ct⟩, rt, bk, ct⟩ σ H) : tSeq t u ⟨n, rt, bk, ct⟩ σ H := k
theorem rd_set {i : Nat} (k : te σ H fun x H1 => n (σ.set i (some x)) H1) : tAsg te (gName i) ⟨n, rt, bk, ct⟩ σ H := k
theorem rd_asg (k : te σ H fun x H1 => g x σ H1 n) : tAsg te g ⟨n, rt, bk, ct⟩ σ H := k
theorem rd_sub {s : TSet} {Q : L2.St → Hp → Prop} (k : ta σ H fun o H1 => tb σ H1 fun i H2 => s o i v H2 fun H3 => Q σ H3) : gSub ta tb s v σ H Q := k
theorem rd_ret (k : te σ H rt) : tRet te ⟨n, rt, bk, ct⟩ σ H := k
theorem rd_drop (k : te σ H fun _ H1 => n σ H1) : tDrop te ⟨n, rt, bk, ct⟩ σ H := k
theorem rd_next' (k : n σ H) : tNext ⟨n, rt, bk, ct⟩ σ H := k
theorem rd_if (k : c σ H fun b H1 => if b = true then t ⟨n, rt, bk, ct⟩ σ H1 else u ⟨n, rt, bk, ct⟩ σ H1) : tIfS c t u ⟨n, rt, bk, ct⟩ σ H := k
theorem rd_brk (k : bk σ H) : tBreak ⟨n, rt, bk, ct⟩ σ H := k
theorem rd_cont (k : ct σ H) : tCont ⟨n, rt, bk, ct⟩ σ H := k
theorem rd_lc {wi : TI} {vs : List Nat} (k : wi σ H fun J H1 => ∀ D, H1 D = none → ∃ W : Nat → Nat → Hp → Prop, (∃ m, W 0 m (upd H1 D (.lst []))) ∧ ∀ i m H, W i m H →
  (J.stop i H ∧ Q (.ref D) H) ∨ (J.go i H ∧ ∃ Nx : Hp → Prop, (∀ H', Nx H' → ∃ m', m' < m ∧ W (i + 1) m' H') ∧ ∀ x H', J.yld i H x H' → g x (wipe σ vs) H' fun σ2 H2 => wipe σ2 vs = wipe σ vs ∧ c σ2 H2 fun b H3 =>
    if b = true then te σ2 H3 fun y H4 => ∃ acc, H4 D = some (.lst acc) ∧ acc.length < sizeLine ∧ Nx (upd H4 D (.lst (acc ++ [y]))) else Nx H3)) : tLc wi g c te vs σ H Q := k
theorem rd_rng1 {R : It → Hp → Prop} (k : tr σ H fun vs H1 => ∃ j : Int, vs = [.int j] ∧ -(2 ^ 62) ≤ j ∧ j < 2 ^ 62 ∧ R (Itr 0 j.toNat) H1) : iRng1 tr σ H R := k
theorem rd_istr {R : It → Hp → Prop} (k : te σ H fun v H1 => ∃ x, v = .str x ∧ R (Its x) H1) : iStr te σ H R := k
theorem rd_ilst {R : It → Hp → Prop} (k : te σ H fun x H1 => ∃ a, x = .ref a ∧ (∃ xs, SqL K H1 a xs) ∧ R (Itl K a) H1) : iList K te σ H R := k
theorem rd_ienum {R : It → Hp → Prop} (k : tr σ H fun vs H1 => ∃ a xs, vs = [.ref a] ∧ SqL K H1 a xs ∧ R (Ite K a) H1) : iEnum K tr σ H R := k
-- ifs
theorem rd_ite {p : Prop} [Decidable p] {A B : Prop} (h1 : p → A) (h2 : ¬ p → B) : if decide p = true then A else B := by
  by_cases h : p
  · rw [if_pos (decide_eq_true h)]; exact h1 h
  · rw [if_neg (by rw [decide_eq_false h]; decide)]; exact h2 h
theorem rd_iteN {p : Prop} [Decidable p] {A B : Prop} (h1 : ¬ p → A) (h2 : p → B) : if (!decide p) = true then A else B := by
  by_cases h : p
  · rw [decide_eq_true h, if_neg (by decide)]; exact h2 h
  · rw [decide_eq_false h]; simpa using h1 h
theorem rd_T {A B : Prop} (h : A) : if true = true then A else B := by rw [if_pos rfl]; exact h
theorem rd_F {A B : Prop} (h : B) : if false = true then A else B := by rw [if_neg (by decide)]; exact h
theorem rd_nT {A B : Prop} (h : B) : if (!true) = true then A else B := by rw [if_neg (by decide)]; exact h
theorem rd_nF {A B : Prop} (h : A) : if (!false) = true then A else B := by rw [if_pos (by rfl)]; exact h
theorem rd_iteB {b : Bool} {A B : Prop} (h1 : b = true → A) (h2 : b = false → B) : if b = true then A else B := by
  cases b
  · exact h2 rfl
  · exact h1 rfl
-- the heap, by the ledger
variable {M : List Addr} {H0 : Hp} {L T : List (Addr × HO)}
theorem rd_new {o : HO} {m : Nat} (A : At M H0 H L T) (hz : m ≤ sizeLine) (k : ∀ p H', At M H0 H' (L ++ [(p, o)]) T → Q (.ref p) H') : m ≤ sizeLine ∧ ∀ p, H p = none → Q (.ref p) (upd H p o) := ⟨hz, fun p h => k p _ (A.snoc h o)⟩
theorem rd_new1 {o : HO} (A : At M H0 H L T) (k : ∀ p H', At M H0 H' (L ++ [(p, o)]) T → Q (.ref p) H') : ∀ p, H p = none → Q (.ref p) (upd H p o) := fun p h => k p _ (A.snoc h o)
theorem rd_newT {o : HO} {m : Nat} (A : At M H0 H L T) (hz : m ≤ sizeLine) (k : ∀ p H', At M H0 H' L (T ++ [(p, o)]) → Q (.ref p) H') : m ≤ sizeLine ∧ ∀ p, H p = none → Q (.ref p) (upd H p o) := ⟨hz, fun p h => k p _ (A.snocT h o)⟩
theorem rd_ixL {p : Addr} {xs : List V} {i : Int} (h : SqL K H p xs) (e : atI xs i = some v) (k : Q v H) : rIxL K (.ref p) (.int i) H Q := ⟨p, xs, i, v, rfl, rfl, h, e, k⟩
theorem rd_ixS {z : Str} {i : Int} {c : Nat} (h : z.length ≤ sizeLine) (e : atI z.cps.toList i = some c) (k : Q (.str ⟨#[c]⟩) H) : rIxS (.str z) (.int i) H Q := ⟨z, i, c, rfl, rfl, h, e, k⟩
theorem rd_ixT {p : Addr} {xs : List V} {i : Int} (h : SqT K H p xs) (e : atI xs i = some v) (k : Q v H) : rIxT K (.ref p) (.int i) H Q := ⟨p, xs, i, v, rfl, rfl, h, e, k⟩
theorem rd_setL {p : Addr} {xs : List V} {i : Int} {j : Nat} {QH : Hp → Prop} (A : At M H0 H L T) (m : Nat) (h : L[m]? = some (p, .lst xs)) (e : ixN xs.length i = some j) (k : ∀ H', At M H0 H' (L.set m (p, .lst (xs.set j v))) T → QH H') : rSetL (.ref p) (.int i) v H QH :=
  ⟨p, xs, i, j, rfl, rfl, A.in h, e, k _ (A.set m h _)⟩
theorem rd_acc {D : Addr} {acc : List V} {Nx : Hp → Prop} (A : At M H0 H L T) (m : Nat) (h : L[m]? = some (D, .lst acc)) (hz : acc.length < sizeLine) (k : ∀ H', At M H0 H' (L.set m (D, .lst (acc ++ [v]))) T → Nx H') :
    ∃ acc, H D = some (.lst acc) ∧ acc.length < sizeLine ∧ Nx (upd H D (.lst (acc ++ [v]))) := ⟨acc, A.in h, hz, k _ (A.set m h _)⟩
theorem rd_slL {a : Addr} {xs : List V} {lo hi : Option Int} (A : At M H0 H L T) (h : SqL K H a xs) (k : ∀ p H', At M H0 H' (L ++ [(p, .lst (cutV xs lo hi))]) T → Q (.ref p) H') : rSlL K (.ref a) lo hi H Q := ⟨a, xs, rfl, h, fun p hp => k p _ (A.snoc hp _)⟩
theorem rd_for {wi : TI} (k : wi σ H fun J H1 => ∃ W : Nat → Nat → L2.St → Hp → Prop, (∃ m, W 0 m σ H1) ∧ ∀ i m σ H, W i m σ H → (J.stop i H ∧ n σ H) ∨ (J.go i H ∧ ∃ N : L2.St → Hp → Prop, (∀ σ' H', N σ' H' → ∃ m', m' < m ∧ W (i + 1) m' σ' H') ∧ ∀ x H', J.yld i H x H' → g x σ H' fun σ2 H2 => t ⟨N, rt, n, N⟩ σ2 H2)) : tFor wi g t ⟨n, rt, bk, ct⟩ σ H := k
/-- a for over what walks -/
theorem forI {J : It} {z : Nat} {G : Hp → Prop} {Y : Nat → Hp → V → Hp → Prop} (w : Walk J z G Y) (Pv : Nat → L2.St → Hp → Prop) (h0 : Pv 0 σ H) (hG : ∀ i σ H, i ≤ z → Pv i σ H → G H)
    (hs : ∀ i x σ H H', i < z → Pv i σ H → Y i H x H' → g x σ H' fun σ2 H2 => t ⟨Pv (i + 1), rt, n, Pv (i + 1)⟩ σ2 H2) (hd : ∀ σ H, Pv z σ H → n σ H) :
    ∃ W : Nat → Nat → L2.St → Hp → Prop, (∃ m, W 0 m σ H) ∧ ∀ i m σ H, W i m σ H → (J.stop i H ∧ n σ H) ∨ (J.go i H ∧ ∃ N : L2.St → Hp → Prop, (∀ σ' H', N σ' H' → ∃ m', m' < m ∧ W (i + 1) m' σ' H') ∧ ∀ x H', J.yld i H x H' → g x σ H' fun σ2 H2 => t ⟨N, rt, n, N⟩ σ2 H2) :=
  for_it (D := ⟨n, rt, fun _ _ => False, fun _ _ => False⟩) w Pv h0 hG hs hd
/-- while: W falls -/
theorem rd_while (W : Nat → L2.St → Hp → Prop) (m : Nat) (h0 : W m σ H) (hs : ∀ m σ H, W m σ H → c σ H fun b H1 => if b = true then ∃ N : L2.St → Hp → Prop, (∀ σ' H', N σ' H' → ∃ m', m' < m ∧ W m' σ' H') ∧ t ⟨N, rt, n, N⟩ σ H1 else n σ H1) : tWhile c t ⟨n, rt, bk, ct⟩ σ H := ⟨W, ⟨m, h0⟩, hs⟩
/-- for i, x in enumerate(l) -/
theorem rd_forEnum {l : Addr} {xs : List V} {a b j : Nat} (hj : σ[j]? = some (some (.ref l))) (h : SqL K H l xs) (Pv : Nat → L2.St → Hp → Prop) (h0 : Pv 0 σ H) (hl : ∀ i σ H, Pv i σ H → SqL K H l xs)
    (hs : ∀ i x σ H H', xs[i]? = some x → Pv i σ H → Sk H H' → t ⟨Pv (i + 1), rt, n, Pv (i + 1)⟩ ((σ.set a (some (.int (i : Int)))).set b (some x)) H') (hd : ∀ σ H, Pv xs.length σ H → n σ H) :
    tFor (iEnum K (tCons (tVar j) tNil)) (gTup K 2 (gCons (gName a) (gCons (gName b) gNil))) t ⟨n, rt, bk, ct⟩ σ H := by
  refine ⟨_, hj, l, xs, rfl, h, for_it walk_enum Pv h0 (fun i σ H _ p => hl i σ H p) (fun i x σ H H' hi p y => ?_) hd⟩
  obtain ⟨T, x1, x2, rfl, hT, rfl, e1, e2⟩ := y
  cases Option.some.inj e1
  exact ⟨T, [.int (i : Nat), x2], rfl, .inl (.inl upd_same), rfl, _, _, rfl, _, _, rfl, rfl, hs i x2 σ H _ e2 p (Sk.of hT)⟩
/-- a value reckoned without a change of the heap -/
def Pu (te : TE) (σ : L2.St) (H : Hp) (v : V) : Prop := ∀ Q : VK, Q v H → te σ H Q
def PuT (tt : TT) (σ : L2.St) (H : Hp) (b : Bool) : Prop := ∀ Q : Bool → Hp → Prop, Q b H → tt σ H Q
theorem rd_andP {b1 b2 : Bool} (h1 : Pu ta σ H (.bl b1)) (h2 : b1 = true → Pu tb σ H (.bl b2)) (k : Q (.bl (b1 && b2)) H) : tAndV ta tb σ H Q :=
  h1 _ ⟨b1, rfl, by cases b1 with
    | true => exact rd_T (h2 rfl _ k)
    | false => exact rd_F k⟩
theorem rd_orP {b1 b2 : Bool} (h1 : Pu ta σ H (.bl b1)) (h2 : b1 = false → Pu tb σ H (.bl b2)) (k : Q (.bl (b1 || b2)) H) : tOrV ta tb σ H Q :=
  h1 _ ⟨b1, rfl, by cases b1 with
    | true => exact rd_T k
    | false => exact rd_F (h2 rfl _ k)⟩
theorem rd_pu (h : Pu te σ H v) (k : Q v H) : te σ H Q := h Q k
theorem rd_cut (Mid : L2.St → Hp → Prop) (h1 : t ⟨Mid, rt, bk, ct⟩ σ H) (h2 : ∀ σ' H', Mid σ' H' → u ⟨n, rt, bk, ct⟩ σ' H') : Evl.tCut t u ⟨n, rt, bk, ct⟩ σ H := ⟨Mid, h1, h2⟩
theorem rd_gn {i : Nat} {Q : L2.St → Hp → Prop} (k : Q (σ.set i (some v)) H) : gName i v σ H Q := k
end
theorem paired_map {α β γ : Type} {R : β → γ → Prop} {f : α → β} {g : α → γ} : ∀ {l : List α}, (∀ x ∈ l, R (f x) (g x)) → Paired R (l.map f) (l.map g)
  | [], _ => .nil
  | x :: l, h => .cons (h x List.mem_cons_self) (paired_map fun y hy => h y (List.mem_cons_of_mem _ hy))
theorem erase_perm {α : Type} {l : List α} {i : Nat} (h : i < l.length) : (l[i] :: l.eraseIdx i).Perm l := by
  rw [List.eraseIdx_eq_take_drop_succ]
  have e : l.take i ++ l[i] :: l.drop (i + 1) = l := by rw [List.getElem_cons_drop h, List.take_append_drop]
  exact (List.perm_middle.symm).trans (by rw [e])
theorem map_erase {α β : Type} (f : α → β) (l : List α) (i : Nat) : (l.map f).eraseIdx i = (l.eraseIdx i).map f := by
  rw [List.eraseIdx_eq_take_drop_succ, List.eraseIdx_eq_take_drop_succ, List.map_append, List.map_take, List.map_drop]
theorem szl {n : Nat} (h : Nat.ble n 100000 = true := by rfl) : n ≤ sizeLine := Nat.le_trans (Nat.le_of_ble_eq_true h) (by decide)
theorem szn {n : Nat} (h : n ≤ 100000) : n ≤ sizeLine := Nat.le_trans h (by decide)
theorem szn' {n : Nat} (h : n < 100000) : n < sizeLine := Nat.lt_of_lt_of_le h (by decide)
theorem ixN_nat {n j : Nat} (hj : j < n) : ixN n (j : Int) = some j := by
  unfold ixN
  rw [if_pos (by omega), if_pos (by omega)]
  simp
theorem ixN_int {n : Nat} {i : Int} (h0 : 0 ≤ i) (h : i < n) : ixN n i = some i.toNat := by
  unfold ixN
  rw [if_pos h0, if_pos h]
theorem atI_int {α : Type} {xs : List α} {i : Int} (h0 : 0 ≤ i) (h : i < xs.length) : atI xs i = some (xs[i.toNat]'(by omega)) := by
  obtain ⟨j, rfl⟩ := Int.eq_ofNat_of_zero_le h0
  exact atI_nat (List.getElem?_eq_getElem (by omega))
theorem atI_ex {α : Type} {xs : List α} {i : Int} (h0 : 0 ≤ i) (h : i < xs.length) : ∃ x ∈ xs, atI xs i = some x := ⟨_, List.getElem_mem _, atI_int h0 h⟩

/-! ### None, or a text; sets of texts -/
def ov : Option Str → V
  | none => .non
  | some z => .str z
theorem setOf_none {P : Program} {w : World} {h : Heap} {a : Addr} {S : Key → Bool} {n : Nat} (R : h.SetOf (mixKind P w) a S n) : h.SetOf (noneKind P w) a (fun o => match o with | none => false | some k => S k) n := by
  obtain ⟨o, es, ep, t, ho, hx, hd, el, mem, b, f, z⟩ := R
  refine ⟨o, es, ep, t, ho, hx, hd, fun e he => ?_, fun k => ?_, b, f, z⟩
  · obtain ⟨⟨k, h1, h2⟩, h3⟩ := el e he
    exact ⟨⟨some k, h1, h2⟩, h3⟩
  · cases k with
    | some k => exact mem k
    | none =>
      refine ⟨fun q => (by cases q), fun ⟨e, he, q⟩ => ?_⟩
      obtain ⟨⟨k, h1, _⟩, _⟩ := el e he
      have h1 : keyIs k e.2 = true := h1
      rw [nk_none q] at h1
      exact absurd h1 (keyIs_none k)
def inO (S : Key → Bool) : Option Str → Bool
  | none => false
  | some z => S (.inr z)
/-- x in s, x None or a text -/
def rInO (P : Program) (w : World) : R2 := fun x y H Q => ∃ (o : Option Str) (a : Addr) (S : Key → Bool) (n : Nat), x = ov o ∧ y = V.ref a ∧ H a = some (SetK P w a S n) ∧ Q (.bl (inO S o)) H
theorem or_inO {X : Cx} : OpR X (compareOp .In) (rInO X.prog X.w) := by
  intro pins s σ H x y v u Q I rx ry h
  obtain ⟨o, a, S, n, rfl, rfl, ha, q⟩ := h
  cases ry
  cases o with
  | none =>
    cases (show v = Value.none from rx)
    exact wpAny_inSet_of (knd := noneKind X.prog X.w) (k := none) rfl rfl (setOf_none (setK_get I ha)) ⟨.bl false, H, I.tok _, rfl, q⟩
  | some z => exact wpAny_inSet_of (knd := mixKind X.prog X.w) (k := .inr z) (kV_is (k := .inr z) rx) (key_scan (k := .inr z) rx) (setK_get I ha) ⟨.bl (S (.inr z)), H, I.tok _, rfl, q⟩
/-- a dict comprehension over what walks -/
theorem dc_it {J : It} {n : Nat} {G : Hp → Prop} {Y : Nat → Hp → V → Hp → Prop} (w : Walk J n G Y) {g : TG} {tt : TT} {tk tv : TE} {vs : List Nat} {σ : L2.St} {H1 : Hp} {D : Addr} {Qd : Hp → Prop} (Pv : Nat → Hp → Prop) (h0 : Pv 0 (upd H1 D (.dK []))) (hG : ∀ i H, i ≤ n → Pv i H → G H)
    (hs : ∀ i x H H', i < n → Pv i H → Y i H x H' → g x (wipe σ vs) H' fun σ2 H2 => wipe σ2 vs = wipe σ vs ∧ tt σ2 H2 fun b H3 =>
      if b = true then tk σ2 H3 fun y H4 => tv σ2 H4 fun z H5 => ∃ kvs k, y = kV k ∧ H5 D = some (.dK kvs) ∧ kvs.length < sizeLine ∧ Pv (i + 1) (upd H5 D (.dK (putK kvs k z))) else Pv (i + 1) H3) (hd : ∀ H, Pv n H → Qd H) :
    ∃ W : Nat → Nat → Hp → Prop, (∃ m, W 0 m (upd H1 D (.dK []))) ∧ ∀ i m H, W i m H →
      (J.stop i H ∧ Qd H) ∨ (J.go i H ∧ ∃ Nx : Hp → Prop, (∀ H', Nx H' → ∃ m', m' < m ∧ W (i + 1) m' H') ∧ ∀ x H', J.yld i H x H' → g x (wipe σ vs) H' fun σ2 H2 => wipe σ2 vs = wipe σ vs ∧ tt σ2 H2 fun b H3 =>
        if b = true then tk σ2 H3 fun y H4 => tv σ2 H4 fun z H5 => ∃ kvs k, y = kV k ∧ H5 D = some (.dK kvs) ∧ kvs.length < sizeLine ∧ Nx (upd H5 D (.dK (putK kvs k z))) else Nx H3) := by
  refine ⟨fun i m H => m + i = n ∧ Pv i H, ⟨n, rfl, h0⟩, fun i m H hw => ?_⟩
  obtain ⟨e, p⟩ := hw
  by_cases hlt : i < n
  · exact .inr ⟨w.goes i H hlt (hG i H (by omega) p), Pv (i + 1), fun H' p' => ⟨m - 1, by omega, by omega, p'⟩, fun x H' y => hs i x H H' hlt p (w.yields i H x H' hlt (hG i H (by omega) p) y)⟩
  · have e2 : i = n := by omega
    rw [e2] at p ⊢
    exact .inl ⟨w.stops H (hG n H (Nat.le_refl _) p), hd H p⟩

/-! ### classes and methods of the text -/
structure Mr (P : Program) (w : World) (K : PySem.W.Frag) (mg : Str → Option Value) (base : Heap) (k : Nat) (x : Str) (C : Addr) (sp : Sp) : Prop where
  ex : ∃ (f : Addr) (fd : FuncData) (ps : List Str), Mk K C f ∧ FnOk P w K mg base CX0 k f fd ps sp ∧ mg x = some (.ref C) ∧ Binds K fd ps []
structure Mt (P : Program) (w : World) (K : PySem.W.Frag) (mg : Str → Option Value) (base : Heap) (k : Nat) (C : Addr) (m : Str) (sp : Sp) : Prop where
  ex : ∃ (f : Addr) (fd : FuncData) (ps : List Str), Cls K C ∧ Meth K C m f ∧ FnOk P w K mg base CX0 k f fd ps sp ∧ Binds K fd ps []
section
variable {X : Cx} {k j : Nat} {C : Addr} {x m : Str} {sp : Sp} {p pos apos : Pos} {e o : Expr} {es : List Expr} {ta : TE} {t : TA}
theorem pe_mr (c : Mr X.prog X.w X.K X.mg X.base k x C sp) (hr : Room j X.A) (hk : k + 1 ≤ j) (hg : Gl X x) (ha : PA X (e :: es) t)
    (hdb : (x == ("__debug__" : Str)) = false := by decide) (he : starEach (e :: es) X.env = (false, eval e X.env) :: starEach es X.env := by rfl) (hpl : (backTo pos (starEach es X.env)).any (·.1) = false := by rfl) :
    PE X (.Call (.Name x p) (e :: es) [] pos) (tMake C sp [] E0 t) := by
  obtain ⟨f, fd, ps, M, F, hm, b⟩ := c.ex
  exact pe_make M F (hr.mono hk) hg hm b .nil pass0 ha hdb he hpl
theorem pe_me {pl : Sem Bool} (c : Mt X.prog X.w X.K X.mg X.base k C m sp) (hr : Room j X.A) (hk : k ≤ j) (he : PE X o ta) (ha : PA X (e :: es) t)
    (hst : starEach (e :: es) X.env = (false, eval e X.env) :: starEach es X.env := by rfl) (hpl : (backTo pos (starEach es X.env)).any (·.1) = false := by rfl)
    (ht : eval (.Call (.Attribute o m apos) (e :: es) [] pos) X.env = (do
      let ov ← eval o X.env
      standAt apos.atName
      let (f, first) ← holding [ov] (getMethod ov m pl)
      callWith pos f first (backTo pos (starEach (e :: es) X.env)) (backToKw pos (keywordEach [] X.env))) := by rfl) :
    PE X (.Call (.Attribute o m apos) (e :: es) [] pos) (tMeth C m sp [] E0 ta t) := by
  obtain ⟨f, fd, ps, hc, hm, F, b⟩ := c.ex
  exact pe_meth (pl := pl) he hc hm F (hr.mono hk) b .nil pass0 ha hst hpl ht
theorem pe_me0 {pl : Sem Bool} (c : Mt X.prog X.w X.K X.mg X.base k C m sp) (hr : Room j X.A) (hk : k ≤ j) (he : PE X o ta)
    (ht : eval (.Call (.Attribute o m apos) [] [] pos) X.env = (do
      let ov ← eval o X.env
      standAt apos.atName
      let (f, first) ← holding [ov] (getMethod ov m pl)
      callWith pos f first (backTo pos (starEach [] X.env)) (backToKw pos (keywordEach [] X.env))) := by rfl) :
    PE X (.Call (.Attribute o m apos) [] [] pos) (tMeth C m sp [] E0 ta tNil) := by
  obtain ⟨f, fd, ps, hc, hm, F, b⟩ := c.ex
  exact pe_meth0 (pl := pl) he hc hm F (hr.mono hk) b .nil pass0 ht
end
section
variable {σ : L2.St} {H : Hp} {Q : VK} {ta tv te : TE} {t : TA} {n bk ct : L2.St → Hp → Prop} {rt : VK} {K : PySem.W.Frag} {C : Addr} {sp : Sp} {E : XK} {m f : Str} {wi : TI} {g : TG} {tt : TT} {tk : TE} {vs : List Nat}
theorem rd_make (k : t σ H fun vs H1 => ∀ x dx, H1 x = none → H1 dx = none → dx ≠ x → sp (.ref x :: (vs ++ [])) (upd (upd H1 dx (.own x)) x (.ins C dx [])) (fun v H2 => v = .non ∧ Q (.ref x) H2) E) : tMake C sp [] E t σ H Q := k
theorem rd_meth (k : ta σ H fun x H1 => ∃ a dx fs, x = .ref a ∧ H1 a = some (.ins C dx fs) ∧ fs.lookup m = none ∧ t σ H1 fun vs H2 => sp (x :: (vs ++ [])) H2 Q E) : tMeth C m sp [] E ta t σ H Q := k
theorem rd_fld (k : ta σ H fun x H1 => ∃ a C dx fs v, x = .ref a ∧ H1 a = some (.ins C dx fs) ∧ Cls K C ∧ NoAttr K C f ∧ fs.lookup f = some v ∧ Q v H1) : tFld K ta f σ H Q := k
theorem rd_sfld (k : tv σ H fun y H1 => ta σ H1 fun x H2 => ∃ a C dx fs, x = .ref a ∧ H2 a = some (.ins C dx fs) ∧ Cls K C ∧ NoAttr K C f ∧ fs.length < 1000 ∧ n σ (upd H2 a (.ins C dx (putF f y fs)))) : sFld K ta tv f ⟨n, rt, bk, ct⟩ σ H := k
theorem rd_dc (k : wi σ H fun J H1 => ∀ D, H1 D = none → ∃ W : Nat → Nat → Hp → Prop, (∃ m, W 0 m (upd H1 D (.dK []))) ∧ ∀ i m H, W i m H →
  (J.stop i H ∧ Q (.ref D) H) ∨ (J.go i H ∧ ∃ Nx : Hp → Prop, (∀ H', Nx H' → ∃ m', m' < m ∧ W (i + 1) m' H') ∧ ∀ x H', J.yld i H x H' → g x (wipe σ vs) H' fun σ2 H2 => wipe σ2 vs = wipe σ vs ∧ tt σ2 H2 fun b H3 =>
    if b = true then tk σ2 H3 fun y H4 => tv σ2 H4 fun z H5 => ∃ kvs k, y = kV k ∧ H5 D = some (.dK kvs) ∧ kvs.length < sizeLine ∧ Nx (upd H5 D (.dK (putK kvs k z))) else Nx H3)) : tDc wi g tt tk tv vs σ H Q := k
theorem rd_items (k : te σ H fun x H1 => LiI.rItemsL x H1 Q) : LiI.tListItems te σ H Q := k
theorem rd_sadd {P : Program} {w : World} (k : ta σ H fun x H1 => (∃ a S n, x = V.ref a ∧ H1 a = some (SetK P w a S n)) ∧ t σ H1 fun xs H2 => rSAddK P w x xs H2 Q) : tSAddK P w ta t σ H Q := k
theorem rd_ivals {td : TE} {R : It → Hp → Prop} (k : td σ H fun x H1 => ∃ d o kvs, x = .ref d ∧ H1 d = some (.frz o (.dK kvs)) ∧ R (Itd d o kvs) H1) : iVals td σ H R := k
end
/-! ### data, the same at two places -/
theorem ex_same {K : PySem.W.Frag} {H H' : Hp} (k : Same H H') {a : Addr} {xs : List V} (h : SqT K H a xs) : SqT K H' a xs := by
  rcases h with (h | ⟨o, h⟩) | h
  · exact .inl (.inl (k _ _ h))
  · exact .inl (.inr ⟨o, k _ _ h⟩)
  · exact .inr h
mutual
theorem dp_kp {K : PySem.W.Frag} {H H' : Hp} (k : Same H H') : ∀ (d : PyData) (v : V), Dp K H v d → Dp K H' v d
  | .none, _, h => by cases h; exact .non
  | .bool b, _, h => by cases h; exact .bl b
  | .int i, _, h => by cases h; exact .int i
  | .str x, _, h => by cases h; exact .str x
  | .list ds, _, h => by
    cases h with
    | lst hs ha => exact .lst (k.seq hs) (dpa_kp k ds _ ha)
  | .tuple ds, _, h => by
    cases h with
    | tup hs ha => exact .tup (ex_same k hs) (dpa_kp k ds _ ha)
  | .dict _, _, h => by cases h
theorem dpa_kp {K : PySem.W.Frag} {H H' : Hp} (k : Same H H') : ∀ (ds : List PyData) (vs : List V), DpAll K H vs ds → DpAll K H' vs ds
  | [], _, h => by cases h; exact .nil
  | d :: ds, _, h => by
    cases h with
    | cons h1 h2 => exact .cons (dp_kp k d _ h1) (dpa_kp k ds _ h2)
end
theorem dpa_len {K : PySem.W.Frag} {H : Hp} : ∀ {ds : List PyData} {vs : List V}, DpAll K H vs ds → vs.length = ds.length
  | [], _, h => by cases h; rfl
  | d :: ds, _, h => by
    cases h with
    | cons h1 h2 => rw [List.length_cons, List.length_cons, dpa_len h2]
theorem dpa_get {K : PySem.W.Frag} {H : Hp} : ∀ {ds : List PyData} {vs : List V}, DpAll K H vs ds → ∀ {i : Nat} {x : V} {d : PyData}, vs[i]? = some x → ds[i]? = some d → Dp K H x d
  | [], _, h, i, x, d, hx, hd => by cases hd
  | e :: ds, _, h, i, x, d, hx, hd => by
    cases h with
    | cons h1 h2 =>
      cases i with
      | zero => cases hx; cases hd; exact h1
      | succ i => exact dpa_get h2 hx hd
theorem dpa_of {K : PySem.W.Frag} {H : Hp} {α : Type} {f : α → V} {g : α → PyData} : ∀ {l : List α}, (∀ x ∈ l, Dp K H (f x) (g x)) → DpAll K H (l.map f) (l.map g)
  | [], _ => .nil
  | x :: l, h => .cons (h x List.mem_cons_self) (dpa_of fun y hy => h y (List.mem_cons_of_mem _ hy))
theorem ty_list {K : PySem.W.Frag} {H : Hp} {a : Addr} {xs : List V} (h : SqL K H a xs) : TyX K H (.ref a) (.type "list") := by
  rcases h with (h | ⟨o, h⟩) | ⟨o, its, n, e, c, _⟩
  · exact .base (.lst h)
  · exact .base (.frz h)
  · exact .kList e c
theorem ty_tuple {K : PySem.W.Frag} {H : Hp} {a : Addr} {xs : List V} (h : SqT K H a xs) : TyX K H (.ref a) (.type "tuple") := by
  rcases h with (h | ⟨o, h⟩) | ⟨o, its, n, e, c, _⟩
  · exact .base (.tup h)
  · exact .fTuple h
  · exact .kTuple e c
def tyOf : PyData → String
  | .none => "NoneType"
  | .bool _ => "bool"
  | .int _ => "int"
  | .str _ => "str"
  | .list _ => "list"
  | .tuple _ => "tuple"
  | .dict _ => "dict"
theorem ty_dp {K : PySem.W.Frag} {H : Hp} {v : V} {d : PyData} (h : Dp K H v d) : TyX K H v (.type (tyOf d)) := by
  cases h with
  | non => exact .base .non
  | bl b => exact .base (.bl b)
  | int i => exact .base (.int i)
  | str x => exact .base (.str x)
  | lst hs _ => exact ty_list hs
  | tup hs _ => exact ty_tuple hs
/-- data of at most n levels, lists and tuples short -/
def Sm : Nat → PyData → Prop
  | _, .none => True
  | _, .bool _ => True
  | _, .int _ => True
  | _, .str z => PyData.strOk z = true
  | n + 1, .list ds => ds.length ≤ 1000 ∧ ∀ e ∈ ds, Sm n e
  | n + 1, .tuple ds => ds.length ≤ 1000 ∧ ∀ e ∈ ds, Sm n e
  | _, _ => False
theorem walk_zipT {K : PySem.W.Frag} {a b : Addr} {xs ys : List V} {n : Nat} (hn : n = min xs.length ys.length) : Walk (RZ.ItzT K a b) n (fun H => SqT K H a xs ∧ SqT K H b ys) (YPair (fun i => xs[i]?) (fun i => ys[i]?)) := by
  subst hn
  refine ⟨fun i H hi q => ⟨xs, ys, xs[i]'(by omega), ys[i]'(by omega), q.1, q.2, List.getElem?_eq_getElem _, List.getElem?_eq_getElem _⟩, fun H q => ⟨xs, ys, q.1, q.2, by omega⟩, fun i H v H' hi q y => ?_⟩
  obtain ⟨T, x, y, h1, h2, h3, h4, h5⟩ := y
  exact ⟨T, x, y, h1, h2, h3, h4 xs q.1, h5 ys q.2⟩
/-! ### built-in names that the module leaves -/
structure Blt (mg : Str → Option Value) : Prop where
  len : mg "len" = none
  isinstance : mg "isinstance" = none
  str : mg "str" = none
  all : mg "all" = none
  enumerate : mg "enumerate" = none
  range : mg "range" = none
  bool : mg "bool" = none
  tuple : mg "tuple" = none
  dict : mg "dict" = none
  list : mg "list" = none
  sorted : mg "sorted" = none
  set : mg "set" = none
  zip : mg "zip" = none
  int : mg "int" = none
  min : mg "min" = none
  repr : mg "repr" = none
  ValueError : mg "ValueError" = none
  super : mg "super" = none
theorem blt_mk {K : PySem.W.Frag} {h : Heap} {mg : Str → Option Value} (X : K.In h) (G : h.Ns mainGlobals mg)
    (z1 : PySem.W.nsIn K mainGlobals "len" = some none) (z2 : PySem.W.nsIn K mainGlobals "isinstance" = some none) (z3 : PySem.W.nsIn K mainGlobals "str" = some none) (z4 : PySem.W.nsIn K mainGlobals "all" = some none)
    (z5 : PySem.W.nsIn K mainGlobals "enumerate" = some none) (z6 : PySem.W.nsIn K mainGlobals "range" = some none) (z7 : PySem.W.nsIn K mainGlobals "bool" = some none) (z8 : PySem.W.nsIn K mainGlobals "tuple" = some none)
    (z9 : PySem.W.nsIn K mainGlobals "dict" = some none) (z10 : PySem.W.nsIn K mainGlobals "list" = some none) (z11 : PySem.W.nsIn K mainGlobals "sorted" = some none) (z12 : PySem.W.nsIn K mainGlobals "set" = some none)
    (z13 : PySem.W.nsIn K mainGlobals "zip" = some none) (z14 : PySem.W.nsIn K mainGlobals "int" = some none) (z15 : PySem.W.nsIn K mainGlobals "min" = some none) (z16 : PySem.W.nsIn K mainGlobals "repr" = some none)
    (z17 : PySem.W.nsIn K mainGlobals "ValueError" = some none) (z18 : PySem.W.nsIn K mainGlobals "super" = some none) : Blt mg :=
  ⟨PySem.W.mg_none_of X G z1, PySem.W.mg_none_of X G z2, PySem.W.mg_none_of X G z3, PySem.W.mg_none_of X G z4, PySem.W.mg_none_of X G z5, PySem.W.mg_none_of X G z6, PySem.W.mg_none_of X G z7, PySem.W.mg_none_of X G z8, PySem.W.mg_none_of X G z9,
   PySem.W.mg_none_of X G z10, PySem.W.mg_none_of X G z11, PySem.W.mg_none_of X G z12, PySem.W.mg_none_of X G z13, PySem.W.mg_none_of X G z14, PySem.W.mg_none_of X G z15, PySem.W.mg_none_of X G z16, PySem.W.mg_none_of X G z17, PySem.W.mg_none_of X G z18⟩
end Nn

namespace Nn
open PySem PySem.Spec PyProof.Rows L2
def topS (i : Nat) : Stmt := PySem.Challenge.pw_newnames_k04_rings.main.body.getD i (.Pass ⟨0, 0, 0, 0⟩)
-- _wall: 0:k
abbrev s_wall : Stmt := topS 0
abbrev N_wall : List Str := ["k"]
abbrev P_wall : List Str := ["k"]
theorem sc_wall : FnScope N_wall ["k"] (defScope s_wall) := ⟨rfl, rfl, rfl, by decide +kernel, rfl, by decide +kernel, by decide +kernel⟩
-- Twice.__init__: 0:self 1:name
abbrev sTwice___init__ : Stmt := inClass (topS 4) 0
abbrev NTwice___init__ : List Str := ["self", "name"]
abbrev PTwice___init__ : List Str := ["self", "name"]
-- is_name: 0:thing 1:sign
abbrev sis_name : Stmt := topS 7
abbrev Nis_name : List Str := ["thing", "sign"]
abbrev Pis_name : List Str := ["thing"]
theorem scis_name : FnScope Nis_name ["thing"] (defScope sis_name) := ⟨rfl, rfl, rfl, by decide +kernel, rfl, by decide +kernel, by decide +kernel⟩
-- check_name: 0:thing
abbrev scheck_name : Stmt := topS 8
abbrev Ncheck_name : List Str := ["thing"]
abbrev Pcheck_name : List Str := ["thing"]
theorem sccheck_name : FnScope Ncheck_name ["thing"] (defScope scheck_name) := ⟨rfl, rfl, rfl, by decide +kernel, rfl, by decide +kernel, by decide +kernel⟩
-- Plan.__init__: 0:self 1:pairs 2:leads 3:taken 4:old 5:new
abbrev sPlan___init__ : Stmt := inClass (topS 9) 0
abbrev NPlan___init__ : List Str := ["self", "pairs", "leads", "taken", "old", "new"]
abbrev PPlan___init__ : List Str := ["self", "pairs"]
theorem scPlan___init__ : FnScope NPlan___init__ ["self", "pairs"] (defScope sPlan___init__) := ⟨rfl, rfl, rfl, by decide +kernel, rfl, by decide +kernel, by decide +kernel⟩
-- Plan.pairs: 0:self
abbrev sPlan_pairs : Stmt := inClass (topS 9) 1
abbrev NPlan_pairs : List Str := ["self"]
abbrev PPlan_pairs : List Str := ["self"]
theorem scPlan_pairs : FnScope NPlan_pairs ["self"] (defScope sPlan_pairs) := ⟨rfl, rfl, rfl, by decide +kernel, rfl, by decide +kernel, by decide +kernel⟩
-- Plan.olds: 0:self
abbrev sPlan_olds : Stmt := inClass (topS 9) 2
abbrev NPlan_olds : List Str := ["self"]
abbrev PPlan_olds : List Str := ["self"]
theorem scPlan_olds : FnScope NPlan_olds ["self"] (defScope sPlan_olds) := ⟨rfl, rfl, rfl, by decide +kernel, rfl, by decide +kernel, by decide +kernel⟩
-- Plan.news: 0:self
abbrev sPlan_news : Stmt := inClass (topS 9) 3
abbrev NPlan_news : List Str := ["self"]
abbrev PPlan_news : List Str := ["self"]
theorem scPlan_news : FnScope NPlan_news ["self"] (defScope sPlan_news) := ⟨rfl, rfl, rfl, by decide +kernel, rfl, by decide +kernel, by decide +kernel⟩
-- Plan.to: 0:self 1:name
abbrev sPlan_to : Stmt := inClass (topS 9) 4
abbrev NPlan_to : List Str := ["self", "name"]
abbrev PPlan_to : List Str := ["self", "name"]
theorem scPlan_to : FnScope NPlan_to ["self", "name"] (defScope sPlan_to) := ⟨rfl, rfl, rfl, by decide +kernel, rfl, by decide +kernel, by decide +kernel⟩
-- Plan.rings: 0:self 1:found 2:seen 3:start 4:walk 5:name
abbrev sPlan_rings : Stmt := inClass (topS 9) 5
abbrev NPlan_rings : List Str := ["self", "found", "seen", "start", "walk", "name"]
abbrev PPlan_rings : List Str := ["self"]
theorem scPlan_rings : FnScope NPlan_rings ["self"] (defScope sPlan_rings) := ⟨rfl, rfl, rfl, by decide +kernel, rfl, by decide +kernel, by decide +kernel⟩
-- _law_state: 0:_law_cell 1:_law_k
abbrev s_law_state : Stmt := topS 11
abbrev N_law_state : List Str := ["_law_cell", "_law_k"]
abbrev P_law_state : List Str := ["_law_cell", "_law_k"]
theorem sc_law_state : FnScope N_law_state ["_law_cell", "_law_k"] (defScope s_law_state) := ⟨rfl, rfl, rfl, by decide +kernel, rfl, by decide +kernel, by decide +kernel⟩
-- _law_next: 0:_law_state_here 1:_law_size
abbrev s_law_next : Stmt := topS 12
abbrev N_law_next : List Str := ["_law_state_here", "_law_size"]
abbrev P_law_next : List Str := ["_law_state_here", "_law_size"]
theorem sc_law_next : FnScope N_law_next ["_law_state_here", "_law_size"] (defScope s_law_next) := ⟨rfl, rfl, rfl, by decide +kernel, rfl, by decide +kernel, by decide +kernel⟩
-- _law_pool: 0:_law_state_here 1:_law_letters 2:_law_base 3:_law_spot 4:_law_step 5:_law_k
abbrev s_law_pool : Stmt := topS 13
abbrev N_law_pool : List Str := ["_law_state_here", "_law_letters", "_law_base", "_law_spot", "_law_step", "_law_k"]
abbrev P_law_pool : List Str := ["_law_state_here"]
theorem sc_law_pool : FnScope N_law_pool ["_law_state_here"] (defScope s_law_pool) := ⟨rfl, rfl, rfl, by decide +kernel, rfl, by decide +kernel, by decide +kernel⟩
-- _law_turned: 0:_law_state_here 1:_law_things_here 2:_law_left 3:_law_found
abbrev s_law_turned : Stmt := topS 14
abbrev N_law_turned : List Str := ["_law_state_here", "_law_things_here", "_law_left", "_law_found"]
abbrev P_law_turned : List Str := ["_law_state_here", "_law_things_here"]
theorem sc_law_turned : FnScope N_law_turned ["_law_state_here", "_law_things_here"] (defScope s_law_turned) := ⟨rfl, rfl, rfl, by decide +kernel, rfl, by decide +kernel, by decide +kernel⟩
-- _law_thing: 0:_law_state_here 1:_law_far
abbrev s_law_thing : Stmt := topS 15
abbrev N_law_thing : List Str := ["_law_state_here", "_law_far"]
abbrev P_law_thing : List Str := ["_law_state_here"]
theorem sc_law_thing : FnScope N_law_thing ["_law_state_here"] (defScope s_law_thing) := ⟨rfl, rfl, rfl, by decide +kernel, rfl, by decide +kernel, by decide +kernel⟩
-- _law_things: 0:_law_state_here 1:_law_pool_here 2:_law_names 3:_law_name
abbrev s_law_things : Stmt := topS 16
abbrev N_law_things : List Str := ["_law_state_here", "_law_pool_here", "_law_names", "_law_name"]
abbrev P_law_things : List Str := ["_law_state_here", "_law_pool_here"]
theorem sc_law_things : FnScope N_law_things ["_law_state_here", "_law_pool_here"] (defScope s_law_things) := ⟨rfl, rfl, rfl, by decide +kernel, rfl, by decide +kernel, by decide +kernel⟩
-- _law_pairs: 0:_law_state_here 1:_law_pool_here 2:_law_things_here 3:_law_movers 4:_law_free 5:_law_some 6:_law_found 7:_law_name 8:_law_old 9:_law_new
abbrev s_law_pairs : Stmt := topS 17
abbrev N_law_pairs : List Str := ["_law_state_here", "_law_pool_here", "_law_things_here", "_law_movers", "_law_free", "_law_some", "_law_found", "_law_name", "_law_old", "_law_new"]
abbrev P_law_pairs : List Str := ["_law_state_here", "_law_pool_here", "_law_things_here"]
theorem sc_law_pairs : FnScope N_law_pairs ["_law_state_here", "_law_pool_here", "_law_things_here"] (defScope s_law_pairs) := ⟨rfl, rfl, rfl, by decide +kernel, rfl, by decide +kernel, by decide +kernel⟩
-- _law_rings: 0:_law_pairs_here 1:_law_news 2:_law_found 3:_law_name 4:_law_ring
abbrev s_law_rings : Stmt := topS 18
abbrev N_law_rings : List Str := ["_law_pairs_here", "_law_news", "_law_found", "_law_name", "_law_ring"]
abbrev P_law_rings : List Str := ["_law_pairs_here"]
theorem sc_law_rings : FnScope N_law_rings ["_law_pairs_here"] (defScope s_law_rings) := ⟨rfl, rfl, rfl, by decide +kernel, rfl, by decide +kernel, by decide +kernel⟩
-- _law_alike: 0:_law_found 1:_law_due 2:_law_key 3:_law_one 4:_law_other
abbrev s_law_alike : Stmt := topS 19
abbrev N_law_alike : List Str := ["_law_found", "_law_due", "_law_key", "_law_one", "_law_other"]
abbrev P_law_alike : List Str := ["_law_found", "_law_due"]
theorem sc_law_alike : FnScope N_law_alike ["_law_found", "_law_due"] (defScope s_law_alike) := ⟨rfl, rfl, rfl, by decide +kernel, rfl, by decide +kernel, by decide +kernel⟩
-- law: 0:_law_script 1:_law_k 2:_law_cell 3:_law_state_here 4:_law_pool_here 5:_law_pairs_here 6:_law_news 7:_law_plan 8:_law_due 9:_law_turn 10:_law_found 11:_law_old 12:_law_new 13:_law_name
abbrev slaw : Stmt := topS 20
abbrev Nlaw : List Str := ["_law_script", "_law_k", "_law_cell", "_law_state_here", "_law_pool_here", "_law_pairs_here", "_law_news", "_law_plan", "_law_due", "_law_turn", "_law_found", "_law_old", "_law_new", "_law_name"]
abbrev Plaw : List Str := ["_law_script"]
theorem sclaw : FnScope Nlaw ["_law_script"] (defScope slaw) := ⟨rfl, rfl, rfl, by decide +kernel, rfl, by decide +kernel, by decide +kernel⟩
end Nn

namespace Nn
open PySem PySem.Spec PyProof.Rows L2
/-! ### min of a list of texts -/
theorem argBest_str (v : Nat → List Nat) : ∀ k, argBest (fun i j => decide (v i < v j)) k ≤ k ∧ ∀ j, j ≤ k → v (argBest (fun i j => decide (v i < v j)) k) ≤ v j
  | 0 => ⟨Nat.le_refl _, fun j hj => by
      have : j = 0 := by omega
      subst this; exact List.le_refl _⟩
  | k + 1 => by
    obtain ⟨h1, h2⟩ := argBest_str v k
    simp only [argBest]
    by_cases hc : v (k + 1) < v (argBest (fun i j => decide (v i < v j)) k)
    · rw [if_pos (by simpa using hc)]
      refine ⟨Nat.le_refl _, fun j hj => ?_⟩
      rcases Nat.lt_or_ge j (k + 1) with hlt | hge
      · exact List.le_trans (List.le_of_lt hc) (h2 j (by omega))
      · have : j = k + 1 := by omega
        subst this; exact List.le_refl _
    · rw [if_neg (by simpa using hc)]
      refine ⟨by omega, fun j hj => ?_⟩
      rcases Nat.lt_or_ge j (k + 1) with hlt | hge
      · exact h2 j (by omega)
      · have : j = k + 1 := by omega
        subst this; exact List.not_lt.mp hc
def txtAt (ss : List Str) (i : Nat) : Str := ss.getD i ⟨#[]⟩
theorem txt_mem {ss : List Str} {i : Nat} (h : i < ss.length) : txtAt ss i ∈ ss := by
  unfold txtAt
  rw [List.getD_eq_getElem?_getD, List.getElem?_eq_getElem h]
  exact List.getElem_mem h
theorem strs_at : ∀ {vs : List Value} {ss : List Str}, StrsAre vs ss → ∀ {i : Nat} {v : Value}, vs[i]? = some v → ∃ t, v = .str (txtAt ss i) t
  | _, _, .nil, i, v, h => by cases h
  | _, _, .cons y t r, 0, v, h => by cases h; exact ⟨t, rfl⟩
  | _, _, .cons y t r, i + 1, v, h => strs_at r (i := i) h
theorem strs_len : ∀ {vs : List Value} {ss : List Str}, StrsAre vs ss → vs.length = ss.length
  | _, _, .nil => rfl
  | _, _, .cons _ _ r => by rw [List.length_cons, List.length_cons, strs_len r]
section
variable {prog : Program} {w : World} {A : Around} {E : Value → Shared → Prop} {s : Shared} {l : Addr} {its : List Value} {ss : List Str} {Q : Value → Shared → Prop}
theorem cmp_strs {P : Nat → Value → Prop} (val : Nat → Str) (hval : ∀ i v, P i v → ∃ t, v = .str (val i) t) : CmpOf prog w A .Lt P (fun i j => decide ((val i).cps.toList < (val j).cps.toList)) := fun i j vi vj s Q E hi hj h => by
  obtain ⟨t, rfl⟩ := hval i vi hi
  obtain ⟨u, rfl⟩ := hval j vj hj
  exact richCompare_gives (op := .Lt) (typeIs_str s _ t) (typeIs_str s _ u) F.slot_str_lt F.entry_str_lt (F.args_str_lt_2 _ _) (gives_str_lt _ _ t u) (fun x => nomatch x) h
theorem min_strs (hh : A.handled = none) (hl : s.heap.IsList l its.toArray) (hi : StrsAre its ss) (hne : 0 < ss.length)
    (h : ∀ h' tk M t', (∀ b o, s.heap.get? b = some o → h'.get? b = some o) → M ∈ ss → (∀ a, a ∈ ss → M.cps.toList ≤ a.cps.toList) → Q (.str M t') { s with heap := h', toks := tk }) : wpAny (model prog w) A (call (.builtin "min") [.ref l]) Q E s := by
  have hlt : l < s.heap.objs.size := by obtain ⟨_, e, _⟩ := hl; exact Heap.lt_size e
  have hlen := strs_len hi
  refine call_min_walk (wpAny_pyIter_list hl ?_)
  refine ⟨_, _, _, _, _, _, _, rfl, Walks.list (A := A.in1) hh _ l (Nat.ne_of_lt hlt) its.toArray, ⟨⟨_, Heap.get?_push_size _ rfl, rfl, rfl⟩, hl.push _⟩, fun b hb => ?_, by simpa [hlen] using hne, cmp_strs (txtAt ss) (fun i v hv => strs_at hi (by simpa using hv)), fun v h' tk hP hk => ?_⟩
  · show b < (s.heap.push _).objs.size
    rw [Heap.size_push]
    rcases List.mem_cons.mp hb with rfl | hb
    · exact Nat.lt_succ_self _
    · rcases List.mem_cons.mp hb with rfl | hb
      · exact Nat.lt_succ_of_lt hlt
      · cases hb
  · obtain ⟨h1, h2⟩ := argBest_str (fun i => (txtAt ss i).cps.toList) (its.toArray.size - 1)
    obtain ⟨t, rfl⟩ := strs_at hi (i := argBest (fun i j => decide ((txtAt ss i).cps.toList < (txtAt ss j).cps.toList)) (its.toArray.size - 1)) (v := v) (by simpa using hP)
    have hsz : its.toArray.size = ss.length := by simpa using hlen
    refine h h' tk _ t (old_kept hk) ?_ fun a ha => ?_
    · exact txt_mem (by omega)
    · obtain ⟨j, hj, rfl⟩ := List.mem_iff_getElem.mp ha
      have := h2 j (by omega)
      have e : txtAt ss j = ss[j] := by unfold txtAt; rw [List.getD_eq_getElem?_getD, List.getElem?_eq_getElem hj]; rfl
      rw [← e]
      exact this
end
/-- min(xs) of a list of texts -/
def rMinS (K : PySem.W.Frag) : List V → Hp → VK → Prop := fun vs H Q => ∃ (a : Addr) (xs : List Str), vs = [V.ref a] ∧ SqL K H a (xs.map V.str) ∧ 0 < xs.length ∧ ∀ m, m ∈ xs → (∀ y, y ∈ xs → m.cps.toList ≤ y.cps.toList) → Q (.str m) H
theorem cr_minS {X : Cx} (hc : X.calm = true) : CallR X (.builtin "min") (rMinS X.K) := by
  intro pins s σ H vs us Q I r h
  obtain ⟨a, ns, rfl, hs, hne, q⟩ := h
  obtain ⟨its, rv, hl, _⟩ := I.list hs
  rw [Vals.ref1 r]
  exact min_strs (I.ok.hd hc) hl.isList rv.strs hne fun h' tk m t' hk h1 h2 => ⟨.str _, H, I.kept hk, ⟨_, rfl⟩, q m h1 h2⟩
end Nn

namespace Nn
open PySem PySem.Spec PyProof.Rows L2
local macro_rules | `(tactic| walk_at "rd1") => `(tactic| first
  | with_reducible refine' rd_c ?_
  | ((with_reducible refine' rd_var ?h ?_); (case h => rfl))
  | with_reducible refine' rd_op ?_
  | with_reducible refine' rd_I0 ?_
  | with_reducible refine' rd_seq ?_
  | ((with_reducible refine' rd_mod ?h ?_); (case h => decide))
  | ((with_reducible refine' rd_fdiv ?h ?_); (case h => exact ⟨by decide, by decide⟩))
  | ((with_reducible refine' rd_pow ?h ?_); (case h => exact ⟨by decide, by decide, by decide⟩))
  | ((with_reducible refine' rd_mul ?h ?_); (case h => first | exact Or.inl (by decide) | exact Or.inr (by decide)))
  | with_reducible refine' rd_set ?_
  | with_reducible refine' rd_asg ?_
  | with_reducible refine' rd_cons ?_
  | with_reducible refine' rd_nil ?_
  | with_reducible refine' rd_call ?_
  | with_reducible refine' rd_cb ?_
  | with_reducible refine' rd_if ?_
  | with_reducible refine' rd_test ?_
  | with_reducible refine' rd_B ?_
  | with_reducible refine' rd_bl ?_
  | ((with_reducible refine' rd_eq ?h ?_); (case h => rfl))
  | ((with_reducible refine' rd_ne ?h ?_); (case h => rfl))
  | with_reducible refine' rd_not ?_
  | with_reducible refine' rd_and ?_
  | with_reducible refine' rd_or ?_
  | with_reducible refine' rd_notV ?_
  | with_reducible refine' rd_chain ?_
  | with_reducible refine' rd_ret ?_
  | with_reducible refine' rd_drop ?_
  | with_reducible refine' rd_next' ?_
  | with_reducible refine' rd_lst ?_
  | with_reducible refine' rd_tup ?_
  | with_reducible refine' rd_lc ?_
  | with_reducible refine' rd_rng1 ?_
  | with_reducible refine' rd_istr ?_
  | with_reducible refine' rd_ilst ?_
  | with_reducible refine' rd_ienum ?_
  | with_reducible refine' rd_bm0 ?_
  | with_reducible refine' rd_bm ?_
  | with_reducible refine' rd_m1 ?_
  | with_reducible refine' rd_sl ?_
  | with_reducible refine' rd_po0 ?_
  | with_reducible refine' rd_po1 ?_
  | with_reducible refine' rd_in ?_
  | with_reducible refine' rd_sub ?_
  | with_reducible refine' rd_ifE ?_
  | with_reducible refine' rd_un ?_
  | with_reducible refine' rd_U ?_
  | with_reducible refine' rd_brk ?_
  | with_reducible refine' rd_cont ?_
  | with_reducible refine' rd_yes ?_
  | with_reducible refine' rd_T ?_
  | with_reducible refine' rd_F ?_
  | with_reducible refine' rd_nT ?_
  | with_reducible refine' rd_nF ?_
  | with_reducible refine' rd_dni ?_
  | with_reducible refine' rd_di ?_
  | with_reducible refine' rd_dget ?_
  | with_reducible refine' rd_dget1 ?_
  | with_reducible refine' rd_dget2 ?_
  | with_reducible refine' rd_dput ?_
  | with_reducible refine' rd_dnew ?_
  | with_reducible refine' rd_ikeys ?_
  | with_reducible refine' rd_gn ?_
  | with_reducible refine' rd_for ?_
  | with_reducible refine' rd_make ?_
  | with_reducible refine' rd_meth ?_
  | with_reducible refine' rd_fld ?_
  | with_reducible refine' rd_sfld ?_
  | with_reducible refine' rd_dc ?_
  | with_reducible refine' rd_items ?_
  | with_reducible refine' rd_sadd ?_
  | with_reducible refine' rd_ivals ?_)
local macro_rules | `(tactic| walk_at "sub") => `(tactic| repeat' (first | exact List.nil_sublist _ | exact List.Sublist.refl _ | apply List.Sublist.cons₂ | apply List.Sublist.cons))
local macro_rules | `(tactic| walk_at "rd") => `(tactic| repeat walk_at "rd1")

section
variable {P : Program} {w : World} {K : PySem.W.Frag} {mg : Str → Option Value} {base : Heap}
/-! ### the state -/
def Sd (s : Int) : Prop := 0 ≤ s ∧ s < 2147483647
def spState : Sp := fun vs H Q _ => ∃ (c k : Int), vs = [.int c, .int k] ∧ ∀ s p H', Sd s → H p = none → H' p = some (.lst [.int s]) → Kp [] H H' → Q (.ref p) H'
theorem ok__law_state {f : Addr} {fd : FuncData} (F : Fun K "_law_state" "_law_state" s_law_state f fd) : FnOk P w K mg base CX0 1 f fd ["_law_cell", "_law_k"] spState := by
  refine F.ok sc_law_state (fun vs H Q E h => by obtain ⟨c, k, rfl, _⟩ := h; rfl) (fun cdv A outer s H vs Q E hr h => ?_)
  obtain ⟨c, k, rfl, q⟩ := h
  refine ⟨_, pss_one (ps_ret (pe_lst (pa_cons (pe_op op_add pe_int (pe_op op_mod (pe_op op_add (pv 0) (pe_op op_mul pe_int (pv 1))) pe_int)) pa_nil))), ?_⟩
  walk_at "rd"
  refine ⟨szl rfl, fun p hp => q _ p _ ?_ hp upd_same (fun a o e _ => by rw [upd_ne (ne_of_none e hp)]; exact e)⟩
  have h1 := Int.emod_nonneg (c + 104729 * k) (b := 2147483645) (by decide)
  have h2 := Int.emod_lt_of_pos (c + 104729 * k) (b := 2147483645) (by decide)
  exact ⟨by omega, by omega⟩
def spNext : Sp := fun vs H Q _ => ∃ (S : Addr) (s n : Int), vs = [.ref S, .int n] ∧ H S = some (.lst [.int s]) ∧ Sd s ∧ 0 < n ∧ ∀ s' r H', Sd s' → 0 ≤ r → r < n → Kp [S] H H' → H' S = some (.lst [.int s']) → Q (.int r) H'
theorem ok__law_next {f : Addr} {fd : FuncData} (F : Fun K "_law_next" "_law_next" s_law_next f fd) : FnOk P w K mg base CX0 1 f fd ["_law_state_here", "_law_size"] spNext := by
  refine F.ok sc_law_next (fun vs H Q E h => by obtain ⟨S, s, n, rfl, _⟩ := h; rfl) (fun cdv A outer s0 H vs Q E hr h => ?_)
  obtain ⟨S, s, n, rfl, hS, hs, hn, q⟩ := h
  refine ⟨_, pss_cons (ps_asg (pe_op op_mod (pe_op op_mul (pe_ix ix_list (pv 0) pe_int (fun _ _ => rfl)) pe_int) pe_int) (pg_sub (pv 0) pe_int set_list))
  (pss_one (ps_ret (pe_op op_mod (pe_op op_fdiv (pe_op op_mod (pe_op op_add (pe_op op_mul (pe_ix ix_list (pv 0) pe_int (fun _ _ => rfl)) (pe_ix ix_list (pv 0) pe_int (fun _ _ => rfl))) (pe_op op_mul pe_int (pe_ix ix_list (pv 0) pe_int (fun _ _ => rfl)))) pe_int) pe_int) (pv 1)))), ?_⟩
  have A := At.one hS
  walk_at "rd"
  refine rd_ixL (A.lst 0 rfl) (by rfl) ?_
  walk_at "rd"
  have h1 := Int.emod_nonneg (s * 48271) (b := 2147483647) (by decide)
  have h2 := Int.emod_lt_of_pos (s * 48271) (b := 2147483647) (by decide)
  refine rd_setL A 0 rfl (by rfl) fun H1 A1 => ?_
  generalize s * 48271 % 2147483647 = t at *
  walk_at "rd"
  refine rd_ixL (A1.lst 0 rfl) (by rfl) ?_
  walk_at "rd"
  refine rd_ixL (A1.lst 0 rfl) (by rfl) ?_
  walk_at "rd"
  refine rd_mul (Or.inl ⟨by omega, by omega⟩) ?_
  walk_at "rd"
  refine rd_ixL (A1.lst 0 rfl) (by rfl) ?_
  walk_at "rd"
  refine rd_mod hn ?_
  exact q t _ H1 ⟨h1, h2⟩ (Int.emod_nonneg _ (by omega)) (Int.emod_lt_of_pos _ hn) A1.keep (A1.get 0 rfl)
/-! ### is_name -/
def signOk (c : Nat) : Bool := decide (97 ≤ c) && decide (c ≤ 122)
def nameOk (z : Str) : Bool := decide (1 ≤ z.length ∧ z.length ≤ 8) && z.cps.toList.all signOk
theorem lt1 (a b : Nat) : ([a] < [b]) ↔ a < b := by
  constructor
  · intro h
    rcases List.cons_lt_cons_iff.mp h with h | ⟨_, h⟩
    · exact h
    · exact absurd h (by simp)
  · intro h
    exact List.cons_lt_cons_iff.mpr (.inl h)
theorem cps_a : ("a" : Str).cps.toList = [97] := by decide +kernel
theorem cps_z : ("z" : Str).cps.toList = [122] := by decide +kernel
def spIsName (K : PySem.W.Frag) : Sp := fun vs H Q _ => ∃ x t b, vs = [x] ∧ TyX K H x t ∧ PySem.W.kitOne K t (.type "str") = some b ∧
  (b = true → ∃ z : Str, x = .str z ∧ z.length ≤ 1000 ∧ ∀ H', Kp [] H H' → Q (.bl (nameOk z)) H') ∧ (b = false → ∀ H', Kp [] H H' → Q (.bl false) H')
theorem ok_is_name {f : Addr} {fd : FuncData} (F : Fun K "is_name" "is_name" sis_name f fd) (B : Blt mg) (g_LONGEST : ∃ tk, mg "LONGEST" = some (.int 8 tk)) : FnOk P w K mg base CX0 1 f fd ["thing"] (spIsName K) := by
  refine F.ok scis_name (fun vs H Q E h => by obtain ⟨x, t, b, rfl, _⟩ := h; rfl) (fun cdv A outer s0 H vs Q E hr h => ?_)
  obtain ⟨x, t, b, rfl, ty, kit, k1, k2⟩ := h
  refine ⟨_, pss_cons (ps_if (PW.pt (pw_or (pt_not (pt_val (pe_callB call_isi (by rfl) B.isinstance (by decide +kernel) (pa_cons (pv 0) (pa_cons (pe_ty (T := "str") (by rfl) B.str (by decide +kernel)) pa_nil))))) (pw_or1 (pt_not (pt_chain op_le op_le pe_int (pe_callB call_len_str (by rfl) B.len (by decide +kernel) (pa_cons (pv 0) pa_nil)) (pe_gint (by rfl) g_LONGEST)))))) (pss_one (ps_ret pe_bl))
   (pss_nil))
  (pss_one (ps_ret (pe_callB (cr_all rfl) (by rfl) B.all (by decide +kernel) (pa_cons (pe_lc (own := [("sign", 1)]) rfl scis_name.nd (pi_str (pv 0)) (blkOk_by (N := Nis_name) (sc := defScope sis_name) (by decide +kernel)) (fun _ _ _ _ _ => (pg_name (i := 1) scis_name.nd rfl (Or.inl rfl))) (fun _ _ _ _ _ => pts_nil) (fun _ _ _ _ _ => (pe_chain op_le_str op_le_str pe_str (pv 1) pe_str))) pa_nil)))), ?_⟩
  have A := At.nil H
  walk_at "rd"
  refine ⟨x, .ty "str", t, .type "str", b, rfl, .ty "str", ty, kit, rd_bl ?_⟩
  cases b with
  | false =>
    walk_at "rd"
    exact k2 rfl H (Kp.refl H)
  | true =>
    obtain ⟨z, rfl, hz, q⟩ := k1 rfl
    walk_at "rd"
    refine ⟨z, rfl, szn (by omega), ?_⟩
    walk_at "rd"
    refine rd_ite (fun h1 => ?_) (fun h1 => ?_)
    · walk_at "rd"
      refine rd_iteN (fun h2 => ?_) (fun h2 => ?_)
      · walk_at "rd"
        have e : nameOk z = false := by
          unfold nameOk
          rw [decide_eq_false (by omega)]
          rfl
        have := q H (Kp.refl H)
        rw [e] at this
        exact this
      · walk_at "rd"
        refine ⟨z, rfl, fun D hD => ?_⟩
        refine lc_it walk_str (fun i H' => At [] H H' [(D, .lst ((z.cps.toList.take i).map fun c => V.bl (signOk c)))] []) (A.snoc hD _) (fun _ _ _ _ => trivial) ?_ ?_
        · rintro i x H1 H2 hi A1 ⟨rfl, c, hc, rfl⟩
          refine ⟨rfl, ?_⟩
          walk_at "rd"
          refine ⟨_, _, rfl, rfl, rd_bl ?_⟩
          have e1 : (!decide ((⟨#[c]⟩ : Str).cps.toList < ("a" : Str).cps.toList)) = decide (97 ≤ c) := by
            rw [cps_a, show (⟨#[c]⟩ : Str).cps.toList = [c] from rfl, ← decide_not]
            exact decide_eq_decide.mpr (by rw [lt1]; omega)
          have e2 : (!decide (("z" : Str).cps.toList < (⟨#[c]⟩ : Str).cps.toList)) = decide (c ≤ 122) := by
            rw [cps_z, show (⟨#[c]⟩ : Str).cps.toList = [c] from rfl, ← decide_not]
            exact decide_eq_decide.mpr (by rw [lt1]; omega)
          have hcl : z.cps.toList[i]? = some c := by rw [Array.getElem?_toList]; exact hc
          have et : ((z.cps.toList.take (i + 1)).map fun c => V.bl (signOk c)) = ((z.cps.toList.take i).map fun c => V.bl (signOk c)) ++ [.bl (signOk c)] := by
            rw [List.take_add_one, hcl, List.map_append]; rfl
          have hl : ((z.cps.toList.take i).map fun c => V.bl (signOk c)).length < sizeLine := by
            rw [List.length_map, List.length_take]
            refine szn' ?_
            have : z.cps.toList.length ≤ 1000 := by rw [Array.length_toList]; exact hz
            omega
          rw [e1]
          refine rd_ite (fun h3 => ?_) (fun h3 => ?_)
          · walk_at "rd"
            refine ⟨_, _, rfl, rfl, ?_⟩
            rw [e2]
            refine ⟨_, A1.get 0 rfl, hl, ?_⟩
            have e3 : signOk c = decide (c ≤ 122) := by unfold signOk; rw [decide_eq_true h3, Bool.true_and]
            rw [et, e3]
            exact A1.set 0 rfl _
          · refine ⟨_, A1.get 0 rfl, hl, ?_⟩
            have e3 : signOk c = false := by unfold signOk; rw [decide_eq_false h3, Bool.false_and]
            rw [et, e3]
            exact A1.set 0 rfl _
        · intro H1 A1
          walk_at "rd"
          refine ⟨D, z.cps.toList.map signOk, rfl, ?_, ?_⟩
          · have := A1.lst (K := K) 0 rfl
            rw [show z.cps.size = z.cps.toList.length from (Array.length_toList).symm, List.take_length] at this
            rw [List.map_map]
            exact this
          · have e : nameOk z = (z.cps.toList.map signOk).all id := by
              unfold nameOk
              rw [decide_eq_true (by omega), Bool.true_and, List.all_map]
              rfl
            rw [← e]
            exact q H1 A1.keep
    · walk_at "rd"
      have e : nameOk z = false := by
        unfold nameOk
        rw [decide_eq_false (by omega)]
        rfl
      have := q H (Kp.refl H)
      rw [e] at this
      exact this
section
variable {M : List Addr} {H0 H : Hp} {L T : List (Addr × HO)} {S : Addr} {s n : Int} {Q : VK} {E : XK}
theorem rd_state (A : At M H0 H L T) {c k : Int} (q : ∀ s p H', Sd s → At M H0 H' (L ++ [(p, .lst [.int s])]) T → Q (.ref p) H') : spState [.int c, .int k] H Q E :=
  ⟨c, k, rfl, fun s p H' hs hn hp kp => q s p H' hs (A.add (A.c0 kp) rfl hn hp)⟩
theorem rd_next (A : At M H0 H L T) (i : Nat) (h : L[i]? = some (S, .lst [.int s])) (hs : Sd s) (hn : 0 < n) (q : ∀ s' r H', Sd s' → 0 ≤ r → r < n → At M H0 H' (L.set i (S, .lst [.int s'])) T → Q (.int r) H') : spNext [.ref S, .int n] H Q E :=
  ⟨S, s, n, rfl, A.in h, hs, hn, fun s' r H' a b c k e => q s' r H' a b c (A.c1 i h k e)⟩
theorem rd_name (A : At M H0 H L T) {z : Str} (hz : z.length ≤ 1000) (q : ∀ H', At M H0 H' L T → Q (.bl (nameOk z)) H') : spIsName K [.str z] H Q E :=
  ⟨.str z, .type "str", true, rfl, .base (.str z), kit_ty (by decide +kernel), fun _ => ⟨z, rfl, hz, fun H' k => q H' (A.c0 k)⟩, fun e => by cases e⟩
theorem rd_noname (A : At M H0 H L T) {x : V} {t : String} (ty : TyX K H x (.type t)) (kit : kitB t "str" = some false) (q : ∀ H', At M H0 H' L T → Q (.bl false) H') : spIsName K [x] H Q E :=
  ⟨x, .type t, false, rfl, ty, kit_ty kit, (fun e => by cases e), fun _ H' k => q H' (A.c0 k)⟩
end
theorem dp_strs {K : PySem.W.Frag} {H : Hp} : ∀ zs : List Str, DpAll K H (zs.map V.str) (zs.map PyData.str)
  | [] => .nil
  | z :: zs => .cons (.str z) (dp_strs zs)
theorem depth_strs : ∀ zs : List Str, PyData.depthAll (zs.map PyData.str) = 0
  | [] => rfl
  | z :: zs => by
    show max (PyData.depth (.str z)) (PyData.depthAll (zs.map PyData.str)) = 0
    rw [depth_strs zs]; rfl
theorem lay_strs : ∀ zs : List Str, (∀ z ∈ zs, PyData.strOk z = true) → PyData.canLayAll0 (zs.map PyData.str) = true
  | [], _ => rfl
  | z :: zs, h => by
    show (PyData.canLay0 (.str z) && PyData.canLayAll0 (zs.map PyData.str)) = true
    rw [lay_strs zs (fun y hy => h y (List.mem_cons_of_mem _ hy))]
    show (PyData.strOk z && true) = true
    rw [h z List.mem_cons_self]; rfl
theorem shaped_strs {zs : List Str} (h : ∀ z ∈ zs, PyData.strOk z = true) : SeqAt.shaped (.list (zs.map PyData.str)) = true := by
  unfold SeqAt.shaped
  rw [show PyData.canLay0 (.list (zs.map PyData.str)) = PyData.canLayAll0 (zs.map PyData.str) from rfl, lay_strs zs h]
  rw [show PyData.depth (.list (zs.map PyData.str)) = PyData.depthAll (zs.map PyData.str) + 1 from rfl, depth_strs]
  rfl
/-- the list of one-sign texts -/
def sg (l : List Nat) : List V := l.map fun c => V.str ⟨#[c]⟩
def sgs (l : List Nat) : List Str := l.map fun c => (⟨#[c]⟩ : Str)
theorem sg_sgs (l : List Nat) : sg l = (sgs l).map V.str := by unfold sg sgs; rw [List.map_map]; rfl
theorem sg_len (l : List Nat) : (sg l).length = l.length := by unfold sg; rw [List.length_map]
theorem join_sg : ∀ l : List Nat, TL.joinL [] (l.map fun c => [c]) = l
  | [] => rfl
  | [c] => rfl
  | c :: d :: r => by
    show [c] ++ ([] ++ TL.joinL [] ((d :: r).map fun c => [c])) = c :: d :: r
    rw [join_sg (d :: r)]; rfl
theorem str_nil : ("" : Str) = SX.S [] := by decide +kernel
theorem join_sgs (l : List Nat) : Txt.join "" (sgs l) = SX.S l := by
  have e : sgs l = (l.map fun c => [c]).map SX.S := by unfold sgs; rw [List.map_map]; rfl
  rw [str_nil, e, SX.join_S, join_sg]
theorem eqv_nil (l : List Nat) : PyData.eqv (.list ((sgs l).map PyData.str)) (.list []) = decide (l = []) := by
  cases l with
  | nil => rfl
  | cons c r => rfl
theorem sgs_ok {l : List Nat} (h : ∀ c ∈ l, c < 1000) : ∀ z ∈ sgs l, PyData.strOk z = true := by
  intro z hz
  obtain ⟨c, hc, rfl⟩ := List.mem_map.mp hz
  have := h c hc
  show (#[c] : Array Nat).all (· < 0x110000) = true
  simp
  omega
theorem sgs_size (l : List Nat) : ((sgs l).map (·.length)).sum + (sgs l).length * ("" : Str).length = l.length := by
  unfold sgs
  rw [List.map_map, List.length_map, show ("" : Str).length = 0 by decide +kernel, Nat.mul_zero, Nat.add_zero]
  induction l with
  | nil => rfl
  | cons c r ih => rw [List.map_cons, List.sum_cons, ih, List.length_cons]; show 1 + _ = _; omega
def letters : Str := "abcdefghijklmnopqrstuvwxyz"
def odd : Str := "AZ09 .-_\n\t'{@`"
theorem letters_ok : ∀ c ∈ letters.cps.toList, signOk c = true ∧ c < 1000 := by decide +kernel
theorem odd_ok : ∀ c ∈ odd.cps.toList, signOk c = false ∧ c < 1000 := by decide +kernel
theorem letters_len : letters.cps.toList.length = 26 := by decide +kernel
theorem odd_len : odd.cps.toList.length = 14 := by decide +kernel
theorem nameOk_S (l : List Nat) : nameOk (SX.S l) = (decide (1 ≤ l.length ∧ l.length ≤ 8) && l.all signOk) := by
  unfold nameOk
  rw [SX.S_len]
end
end Nn

namespace Nn
open PySem PySem.Spec PyProof.Rows L2
local macro_rules | `(tactic| walk_at "rd1") => `(tactic| first
  | with_reducible refine' rd_c ?_
  | ((with_reducible refine' rd_var ?h ?_); (case h => rfl))
  | with_reducible refine' rd_op ?_
  | with_reducible refine' rd_I0 ?_
  | with_reducible refine' rd_seq ?_
  | ((with_reducible refine' rd_mod ?h ?_); (case h => decide))
  | ((with_reducible refine' rd_fdiv ?h ?_); (case h => exact ⟨by decide, by decide⟩))
  | ((with_reducible refine' rd_pow ?h ?_); (case h => exact ⟨by decide, by decide, by decide⟩))
  | ((with_reducible refine' rd_mul ?h ?_); (case h => first | exact Or.inl (by decide) | exact Or.inr (by decide)))
  | with_reducible refine' rd_set ?_
  | with_reducible refine' rd_asg ?_
  | with_reducible refine' rd_cons ?_
  | with_reducible refine' rd_nil ?_
  | with_reducible refine' rd_call ?_
  | with_reducible refine' rd_cb ?_
  | with_reducible refine' rd_if ?_
  | with_reducible refine' rd_test ?_
  | with_reducible refine' rd_B ?_
  | with_reducible refine' rd_bl ?_
  | ((with_reducible refine' rd_eq ?h ?_); (case h => rfl))
  | ((with_reducible refine' rd_ne ?h ?_); (case h => rfl))
  | with_reducible refine' rd_not ?_
  | with_reducible refine' rd_and ?_
  | with_reducible refine' rd_or ?_
  | with_reducible refine' rd_notV ?_
  | with_reducible refine' rd_chain ?_
  | with_reducible refine' rd_ret ?_
  | with_reducible refine' rd_drop ?_
  | with_reducible refine' rd_next' ?_
  | with_reducible refine' rd_lst ?_
  | with_reducible refine' rd_tup ?_
  | with_reducible refine' rd_lc ?_
  | with_reducible refine' rd_rng1 ?_
  | with_reducible refine' rd_istr ?_
  | with_reducible refine' rd_ilst ?_
  | with_reducible refine' rd_ienum ?_
  | with_reducible refine' rd_bm0 ?_
  | with_reducible refine' rd_bm ?_
  | with_reducible refine' rd_m1 ?_
  | with_reducible refine' rd_sl ?_
  | with_reducible refine' rd_po0 ?_
  | with_reducible refine' rd_po1 ?_
  | with_reducible refine' rd_in ?_
  | with_reducible refine' rd_sub ?_
  | with_reducible refine' rd_ifE ?_
  | with_reducible refine' rd_un ?_
  | with_reducible refine' rd_U ?_
  | with_reducible refine' rd_brk ?_
  | with_reducible refine' rd_cont ?_
  | with_reducible refine' rd_yes ?_
  | with_reducible refine' rd_T ?_
  | with_reducible refine' rd_F ?_
  | with_reducible refine' rd_nT ?_
  | with_reducible refine' rd_nF ?_
  | with_reducible refine' rd_dni ?_
  | with_reducible refine' rd_di ?_
  | with_reducible refine' rd_dget ?_
  | with_reducible refine' rd_dget1 ?_
  | with_reducible refine' rd_dget2 ?_
  | with_reducible refine' rd_dput ?_
  | with_reducible refine' rd_dnew ?_
  | with_reducible refine' rd_ikeys ?_
  | with_reducible refine' rd_gn ?_
  | with_reducible refine' rd_for ?_
  | with_reducible refine' rd_make ?_
  | with_reducible refine' rd_meth ?_
  | with_reducible refine' rd_fld ?_
  | with_reducible refine' rd_sfld ?_
  | with_reducible refine' rd_dc ?_
  | with_reducible refine' rd_items ?_
  | with_reducible refine' rd_sadd ?_
  | with_reducible refine' rd_ivals ?_)
local macro_rules | `(tactic| walk_at "sub") => `(tactic| repeat' (first | exact List.nil_sublist _ | exact List.Sublist.refl _ | apply List.Sublist.cons₂ | apply List.Sublist.cons))
local macro_rules | `(tactic| walk_at "rd") => `(tactic| repeat walk_at "rd1")

/-! ### fourteen unlike names -/
structure Pool (ps : List Str) : Prop where
  len : ps.length = 14
  nd : ps.Nodup
  ok : ∀ z ∈ ps, nameOk z = true
theorem nameOk_len {z : Str} (h : nameOk z = true) : 1 ≤ z.length ∧ z.length ≤ 8 := by
  unfold nameOk at h
  rw [Bool.and_eq_true] at h
  exact of_decide_eq_true h.1
theorem nameOk_sign {z : Str} (h : nameOk z = true) : ∀ c ∈ z.cps.toList, signOk c = true := by
  unfold nameOk at h
  rw [Bool.and_eq_true] at h
  exact fun c hc => List.all_eq_true.mp h.2 c hc
theorem signOk_lt {c : Nat} (h : signOk c = true) : 97 ≤ c ∧ c ≤ 122 := by
  unfold signOk at h
  rw [Bool.and_eq_true] at h
  exact ⟨of_decide_eq_true h.1, of_decide_eq_true h.2⟩
theorem nameOk_ok {z : Str} (h : nameOk z = true) : PyData.strOk z = true := by
  unfold PyData.strOk
  rw [← Array.all_toList]
  exact List.all_eq_true.mpr fun c hc => decide_eq_true (by have := (signOk_lt (nameOk_sign h c hc)).2; omega)
theorem nodup_mapr {α : Type} {f : Nat → α} {n : Nat} (h : ∀ i j, i < j → j < n → f i ≠ f j) : ((List.range n).map f).Nodup := by
  rw [List.Nodup, List.pairwise_map]
  exact (List.pairwise_lt_range (n := n)).imp_of_mem fun {a b} ha hb hab => h a b hab (List.mem_range.mp hb)
def lt (i : Int) : Nat := 97 + i.toNat
theorem letters_at {i : Int} (h0 : 0 ≤ i) (h : i < 26) : atI letters.cps.toList i = some (lt i) := by
  have key : ∀ j : Fin 26, letters.cps.toList[j.val]? = some (97 + j.val) := by decide +kernel
  obtain ⟨j, rfl⟩ := Int.eq_ofNat_of_zero_le h0
  exact atI_nat (key ⟨j, by omega⟩)
theorem lt_ok {i : Int} (h0 : 0 ≤ i) (h : i < 26) : signOk (lt i) = true := by
  unfold signOk lt
  rw [Bool.and_eq_true]
  exact ⟨decide_eq_true (by omega), decide_eq_true (by omega)⟩
def nmA (b : List Nat) (step : Int) (k : Nat) : List Nat := lt ((step + 5 * (k : Int)) % 26) :: b.take (((k : Int) + step) % 4).toNat
def nmB (b : List Nat) (step spot : Int) (k : Nat) : List Nat := b.take spot.toNat ++ [lt ((step + 7 * (k : Int)) % 26)] ++ b.drop spot.toNat
theorem pool_A {b : List Nat} {step : Int} (hb : ∀ c ∈ b, signOk c = true) (hl : b.length ≤ 7) : Pool ((List.range 14).map fun k => SX.S (nmA b step k)) := by
  refine ⟨by rw [List.length_map, List.length_range], nodup_mapr fun i j hij hj e => ?_, ?_⟩
  · have e := SX.S_inj e
    unfold nmA lt at e
    have := (List.cons.inj e).1
    omega
  · intro z hz
    obtain ⟨k, _, rfl⟩ := List.mem_map.mp hz
    rw [nameOk_S]
    unfold nmA
    have := List.length_take_le (((k : Int) + step) % 4).toNat b
    rw [Bool.and_eq_true]
    refine ⟨decide_eq_true ?_, ?_⟩
    · rw [List.length_cons, List.length_take]; omega
    · rw [List.all_cons, lt_ok (Int.emod_nonneg _ (by decide)) (Int.emod_lt_of_pos _ (by decide)), Bool.true_and]
      exact List.all_eq_true.mpr fun c hc => hb c (List.mem_of_mem_take hc)
theorem pool_B {b : List Nat} {step spot : Int} (hb : ∀ c ∈ b, signOk c = true) (hl : b.length ≤ 7) : Pool ((List.range 14).map fun k => SX.S (nmB b step spot k)) := by
  refine ⟨by rw [List.length_map, List.length_range], nodup_mapr fun i j hij hj e => ?_, ?_⟩
  · have e := SX.S_inj e
    unfold nmB at e
    rw [List.append_assoc, List.append_assoc] at e
    have e1 := List.append_cancel_left e
    have := (List.cons.inj e1).1
    unfold lt at this
    omega
  · intro z hz
    obtain ⟨k, _, rfl⟩ := List.mem_map.mp hz
    rw [nameOk_S]
    unfold nmB
    rw [Bool.and_eq_true]
    refine ⟨decide_eq_true ?_, ?_⟩
    · rw [List.length_append, List.length_append, List.length_take, List.length_drop]; show 1 ≤ _ + 1 + _ ∧ _ + 1 + _ ≤ 8; omega
    · rw [List.all_append, List.all_append]
      have h1 : (b.take spot.toNat).all signOk = true := List.all_eq_true.mpr fun c hc => hb c (List.mem_of_mem_take hc)
      have h2 : (b.drop spot.toNat).all signOk = true := List.all_eq_true.mpr fun c hc => hb c (List.mem_of_mem_drop hc)
      rw [h1, h2, List.all_cons, lt_ok (Int.emod_nonneg _ (by decide)) (Int.emod_lt_of_pos _ (by decide))]; rfl
section
variable {P : Program} {w : World} {K : PySem.W.Frag} {mg : Str → Option Value} {base : Heap}
structure C1 (P : Program) (w : World) (K : PySem.W.Frag) (mg : Str → Option Value) (base : Heap) : Prop where
  _law_next : Cl P w K mg base 1 "_law_next" spNext
def spPool : Sp := fun vs H Q _ => ∃ (S : Addr) (s : Int), vs = [.ref S] ∧ H S = some (.lst [.int s]) ∧ Sd s ∧
  ∀ s' p ps H', Sd s' → Pool ps → H p = none → H' p = some (.lst (ps.map V.str)) → Kp [S] H H' → H' S = some (.lst [.int s']) → Q (.ref p) H'
theorem ok__law_pool {f : Addr} {fd : FuncData} (F : Fun K "_law_pool" "_law_pool" s_law_pool f fd) (B : Blt mg) (C : C1 P w K mg base) : FnOk P w K mg base CX0 2 f fd P_law_pool spPool := by
  refine F.ok sc_law_pool (fun vs H Q E h => by obtain ⟨S, s, rfl, _⟩ := h; rfl) (fun cdv A outer s0 H vs Q E hr h => ?_)
  obtain ⟨S, s, rfl, hS, hs, q⟩ := h
  refine ⟨_, pss_cons (ps_set (i := 1) sc_law_pool.nd rfl (Or.inr rfl) pe_str)
  (pss_cons (ps_set (i := 2) sc_law_pool.nd rfl (Or.inr rfl) (pe_join pe_str (pe_lc (own := [("_law_k", 5)]) rfl sc_law_pool.nd (pi_range1 (by rfl) B.range (pa_cons (pe_cl C._law_next hr (by omega) (by rfl) (pa_cons (pv 0) (pa_cons pe_int pa_nil))) pa_nil)) (blkOk_by (N := N_law_pool) (sc := defScope s_law_pool) (by decide +kernel)) (fun _ _ _ _ _ => (pg_name (i := 5) sc_law_pool.nd rfl (Or.inl rfl))) (fun _ _ _ _ _ => pts_nil) (fun _ _ _ _ _ => (pe_ix ix_str (pv 1) (pe_cl C._law_next hr (by omega) (by rfl) (pa_cons (pv 0) (pa_cons pe_int pa_nil))) (fun _ _ => rfl))))))
  (pss_cons (ps_set (i := 3) sc_law_pool.nd rfl (Or.inr rfl) (pe_cl C._law_next hr (by omega) (by rfl) (pa_cons (pv 0) (pa_cons (pe_op op_add (pe_callB call_len_str (by rfl) B.len (by decide +kernel) (pa_cons (pv 2) pa_nil)) pe_int) pa_nil))))
  (pss_cons (ps_set (i := 4) sc_law_pool.nd rfl (Or.inr rfl) (pe_cl C._law_next hr (by omega) (by rfl) (pa_cons (pv 0) (pa_cons pe_int pa_nil))))
  (pss_cons (ps_if (pt_cmpR op_eq (pe_cl C._law_next hr (by omega) (by rfl) (pa_cons (pv 0) (pa_cons pe_int pa_nil))) pe_int (nomark _)) (pss_one (ps_ret (pe_lc (own := [("_law_k", 5)]) rfl sc_law_pool.nd (pi_range1 (by rfl) B.range (pa_cons pe_int pa_nil)) (blkOk_by (N := N_law_pool) (sc := defScope s_law_pool) (by decide +kernel)) (fun _ _ _ _ _ => (pg_name (i := 5) sc_law_pool.nd rfl (Or.inl rfl))) (fun _ _ _ _ _ => pts_nil) (fun _ _ _ _ _ => (pe_op op_add_str (pe_ix ix_str (pv 1) (pe_op op_mod (pe_op op_add (pv 4) (pe_op op_mul pe_int (pv 5))) pe_int) (fun _ _ => rfl)) (pe_slice C8.sl_txt (pv 2) po_none (po_some (pe_op op_mod (pe_op op_add (pv 5) (pv 4)) pe_int))))))))
   (pss_nil))
  (pss_one (ps_ret (pe_lc (own := [("_law_k", 5)]) rfl sc_law_pool.nd (pi_range1 (by rfl) B.range (pa_cons pe_int pa_nil)) (blkOk_by (N := N_law_pool) (sc := defScope s_law_pool) (by decide +kernel)) (fun _ _ _ _ _ => (pg_name (i := 5) sc_law_pool.nd rfl (Or.inl rfl))) (fun _ _ _ _ _ => pts_nil) (fun _ _ _ _ _ => (pe_op op_add_str (pe_op op_add_str (pe_slice C8.sl_txt (pv 2) po_none (po_some (pv 3))) (pe_ix ix_str (pv 1) (pe_op op_mod (pe_op op_add (pv 4) (pe_op op_mul pe_int (pv 5))) pe_int) (fun _ _ => rfl))) (pe_slice C8.sl_txt (pv 2) (po_some (pv 3)) po_none)))))))))), ?_⟩
  have A := At.one hS
  walk_at "rd"
  refine ⟨⟨_, rfl⟩, ?_⟩
  walk_at "rd"
  refine rd_next A 0 rfl hs (by decide) fun s r1 H1 hs h0 h1 A1 => ?_
  walk_at "rd"
  refine ⟨_, rfl, by omega, by omega, fun D hD => ?_⟩
  refine lc_range (fun i H' => ∃ (s : Int) (zs : List Nat), Sd s ∧ zs.length = i ∧ (∀ c ∈ zs, signOk c = true) ∧ At [S] H H' [(S, .lst [.int s]), (D, .lst (sg zs))] []) ⟨s, [], hs, rfl, by simp, A1.snoc hD _⟩ ?_ ?_
  · rintro i H5 hi ⟨s, zs, hs, hl, hz, A5⟩
    refine ⟨rfl, ?_⟩
    walk_at "rd"
    refine rd_next A5 0 rfl hs (by decide) fun s r H6 hs h0 h1 A6 => ?_
    obtain ⟨c, hc, e⟩ := atI_ex (xs := letters.cps.toList) h0 (by rw [letters_len]; exact h1)
    refine rd_ixS szl e ?_
    refine ⟨_, A6.get 1 rfl, by rw [sg_len]; exact szn' (by omega), s, zs ++ [c], hs, by rw [List.length_append, hl]; rfl, ?_, ?_⟩
    · intro d hd
      rcases List.mem_append.mp hd with hd | hd
      · exact hz d hd
      · rw [List.mem_singleton] at hd; exact hd ▸ (letters_ok c hc).1
    · have := A6.set 1 rfl (.lst (sg zs ++ [.str ⟨#[c]⟩]))
      rw [show sg (zs ++ [c]) = sg zs ++ [.str ⟨#[c]⟩] by unfold sg; rw [List.map_append]; rfl]
      exact this
  rintro H2 ⟨s1, b, hs1, hl, hz, A2⟩
  clear A1 A hs
  have hb7 : b.length ≤ 7 := by omega
  refine ⟨_, _, sgs b, rfl, rfl, .inl ?_, ?_, ?_⟩
  · rw [← sg_sgs]; exact A2.lst 1 rfl
  · rw [sgs_size]; omega
  rw [show Txt.join ("" : Str) (sgs b) = SX.S b from join_sgs b]
  walk_at "rd"
  refine ⟨_, rfl, by rw [SX.S_len]; exact szn (by omega), ?_⟩
  rw [SX.S_len]
  walk_at "rd"
  refine rd_next A2 0 rfl hs1 (by omega) fun s2 spot H3 hs2 p0 p1 A3 => ?_
  walk_at "rd"
  refine rd_next A3 0 rfl hs2 (by decide) fun s3 step H4 hs3 t0 t1 A4 => ?_
  walk_at "rd"
  refine rd_next A4 0 rfl hs3 (by decide) fun s4 way H5 hs4 w0 w1 A5 => ?_
  walk_at "rd"
  clear A2 A3 A4 hs1 hs2 hs3 hD
  refine rd_ite (fun _ => ?_) (fun _ => ?_)
  · walk_at "rd"
    refine ⟨_, rfl, by decide, by decide, fun D2 hD2 => ?_⟩
    refine lc_range (n := 14) (fun i H' => At [S] H H' [(S, .lst [.int s4]), (D, .lst (sg b)), (D2, .lst (((List.range i).map fun k => SX.S (nmA b step k)).map V.str))] []) (A5.snoc hD2 _) ?_ ?_
    · rintro i H6 hi A6
      refine ⟨rfl, ?_⟩
      walk_at "rd"
      have m0 := Int.emod_nonneg (step + 5 * (i : Int)) (b := 26) (by decide)
      have m1 := Int.emod_lt_of_pos (step + 5 * (i : Int)) (b := 26) (by decide)
      have n0 := Int.emod_nonneg ((i : Int) + step) (b := 4) (by decide)
      rw [Int.zero_add]
      refine rd_ixS szl (letters_at m0 m1) ?_
      walk_at "rd"
      refine ⟨_, rfl, by rw [SX.S_len]; exact szn (by omega), ?_⟩
      rw [SX.slice_to n0]
      refine ⟨_, _, rfl, rfl, szn ?_, ?_⟩
      · rw [SX.S_len, SX.S_len, List.length_take]; show 1 + _ ≤ _; omega
      rw [show (⟨#[lt ((step + 5 * (i : Int)) % 26)]⟩ : Str) ++ SX.S (b.take (((i : Int) + step) % 4).toNat) = SX.S (nmA b step i) from SX.S_cat [_] _]
      refine ⟨_, A6.get 2 rfl, by rw [List.length_map, List.length_map, List.length_range]; exact szn' (by omega), ?_⟩
      have := A6.set 2 rfl (.lst ((((List.range i).map fun k => SX.S (nmA b step k)).map V.str) ++ [.str (SX.S (nmA b step i))]))
      rw [List.range_succ, List.map_append, List.map_append]
      exact this
    · intro H6 A6
      exact q s4 D2 _ H6 hs4 (pool_A hz hb7) (A6.new0 2 rfl (by rw [List.mem_singleton]; exact A6.ne 2 0 rfl rfl (by decide))) (A6.get 2 rfl) A6.keep (A6.get 0 rfl)
  · walk_at "rd"
    refine ⟨_, rfl, by decide, by decide, fun D2 hD2 => ?_⟩
    refine lc_range (n := 14) (fun i H' => At [S] H H' [(S, .lst [.int s4]), (D, .lst (sg b)), (D2, .lst (((List.range i).map fun k => SX.S (nmB b step spot k)).map V.str))] []) (A5.snoc hD2 _) ?_ ?_
    · rintro i H6 hi A6
      refine ⟨rfl, ?_⟩
      walk_at "rd"
      have m0 := Int.emod_nonneg (step + 7 * (i : Int)) (b := 26) (by decide)
      have m1 := Int.emod_lt_of_pos (step + 7 * (i : Int)) (b := 26) (by decide)
      refine ⟨_, rfl, by rw [SX.S_len]; exact szn (by omega), ?_⟩
      rw [SX.slice_to p0, Int.zero_add]
      walk_at "rd"
      refine rd_ixS szl (letters_at m0 m1) ?_
      refine ⟨_, _, rfl, rfl, szn ?_, ?_⟩
      · rw [SX.S_len, List.length_take]; show _ + 1 ≤ _; omega
      rw [show SX.S (b.take spot.toNat) ++ (⟨#[lt ((step + 7 * (i : Int)) % 26)]⟩ : Str) = SX.S (b.take spot.toNat ++ [lt ((step + 7 * (i : Int)) % 26)]) from SX.S_cat _ [_]]
      walk_at "rd"
      refine ⟨_, rfl, by rw [SX.S_len]; exact szn (by omega), ?_⟩
      rw [SX.slice_from p0]
      refine ⟨_, _, rfl, rfl, szn ?_, ?_⟩
      · rw [SX.S_len, SX.S_len, List.length_append, List.length_take, List.length_drop]; show _ + 1 + _ ≤ _; omega
      rw [SX.S_cat]
      refine ⟨_, A6.get 2 rfl, by rw [List.length_map, List.length_map, List.length_range]; exact szn' (by omega), ?_⟩
      have := A6.set 2 rfl (.lst ((((List.range i).map fun k => SX.S (nmB b step spot k)).map V.str) ++ [.str (SX.S (nmB b step spot i))]))
      rw [List.range_succ, List.map_append, List.map_append]
      exact this
    · intro H6 A6
      exact q s4 D2 _ H6 hs4 (pool_B hz hb7) (A6.new0 2 rfl (by rw [List.mem_singleton]; exact A6.ne 2 0 rfl rfl (by decide))) (A6.get 2 rfl) A6.keep (A6.get 0 rfl)
end
end Nn

namespace Nn
open PySem PySem.Spec PyProof.Rows L2
local macro_rules | `(tactic| walk_at "rd1") => `(tactic| first
  | with_reducible refine' rd_c ?_
  | ((with_reducible refine' rd_var ?h ?_); (case h => rfl))
  | with_reducible refine' rd_op ?_
  | with_reducible refine' rd_I0 ?_
  | with_reducible refine' rd_seq ?_
  | ((with_reducible refine' rd_mod ?h ?_); (case h => decide))
  | ((with_reducible refine' rd_fdiv ?h ?_); (case h => exact ⟨by decide, by decide⟩))
  | ((with_reducible refine' rd_pow ?h ?_); (case h => exact ⟨by decide, by decide, by decide⟩))
  | ((with_reducible refine' rd_mul ?h ?_); (case h => first | exact Or.inl (by decide) | exact Or.inr (by decide)))
  | with_reducible refine' rd_set ?_
  | with_reducible refine' rd_asg ?_
  | with_reducible refine' rd_cons ?_
  | with_reducible refine' rd_nil ?_
  | with_reducible refine' rd_call ?_
  | with_reducible refine' rd_cb ?_
  | with_reducible refine' rd_if ?_
  | with_reducible refine' rd_test ?_
  | with_reducible refine' rd_B ?_
  | with_reducible refine' rd_bl ?_
  | ((with_reducible refine' rd_eq ?h ?_); (case h => rfl))
  | ((with_reducible refine' rd_ne ?h ?_); (case h => rfl))
  | with_reducible refine' rd_not ?_
  | with_reducible refine' rd_and ?_
  | with_reducible refine' rd_or ?_
  | with_reducible refine' rd_notV ?_
  | with_reducible refine' rd_chain ?_
  | with_reducible refine' rd_ret ?_
  | with_reducible refine' rd_drop ?_
  | with_reducible refine' rd_next' ?_
  | with_reducible refine' rd_lst ?_
  | with_reducible refine' rd_tup ?_
  | with_reducible refine' rd_lc ?_
  | with_reducible refine' rd_rng1 ?_
  | with_reducible refine' rd_istr ?_
  | with_reducible refine' rd_ilst ?_
  | with_reducible refine' rd_ienum ?_
  | with_reducible refine' rd_bm0 ?_
  | with_reducible refine' rd_bm ?_
  | with_reducible refine' rd_m1 ?_
  | with_reducible refine' rd_sl ?_
  | with_reducible refine' rd_po0 ?_
  | with_reducible refine' rd_po1 ?_
  | with_reducible refine' rd_in ?_
  | with_reducible refine' rd_sub ?_
  | with_reducible refine' rd_ifE ?_
  | with_reducible refine' rd_un ?_
  | with_reducible refine' rd_U ?_
  | with_reducible refine' rd_brk ?_
  | with_reducible refine' rd_cont ?_
  | with_reducible refine' rd_yes ?_
  | with_reducible refine' rd_T ?_
  | with_reducible refine' rd_F ?_
  | with_reducible refine' rd_nT ?_
  | with_reducible refine' rd_nF ?_
  | with_reducible refine' rd_dni ?_
  | with_reducible refine' rd_di ?_
  | with_reducible refine' rd_dget ?_
  | with_reducible refine' rd_dget1 ?_
  | with_reducible refine' rd_dget2 ?_
  | with_reducible refine' rd_dput ?_
  | with_reducible refine' rd_dnew ?_
  | with_reducible refine' rd_ikeys ?_
  | with_reducible refine' rd_gn ?_
  | with_reducible refine' rd_for ?_
  | with_reducible refine' rd_make ?_
  | with_reducible refine' rd_meth ?_
  | with_reducible refine' rd_fld ?_
  | with_reducible refine' rd_sfld ?_
  | with_reducible refine' rd_dc ?_
  | with_reducible refine' rd_items ?_
  | with_reducible refine' rd_sadd ?_
  | with_reducible refine' rd_ivals ?_)
local macro_rules | `(tactic| walk_at "sub") => `(tactic| repeat' (first | exact List.nil_sublist _ | exact List.Sublist.refl _ | apply List.Sublist.cons₂ | apply List.Sublist.cons))
local macro_rules | `(tactic| walk_at "rd") => `(tactic| repeat walk_at "rd1")

section
variable {P : Program} {w : World} {K : PySem.W.Frag} {mg : Str → Option Value} {base : Heap}
/-! ### a list in a drawn order -/
theorem strs_ne (zs : List Str) (s : Int) : zs.map V.str ≠ [V.int s] := by
  cases zs with
  | nil => intro e; cases e
  | cons z r => intro e; cases e
/-- a list of texts stands while the state changes -/
theorem Kp.strs {S a : Addr} {s : Int} {H H' : Hp} {zs : List Str} (k : Kp [S] H H') (hS : H S = some (.lst [.int s])) (h : SqL K H a (zs.map V.str)) : SqL K H' a (zs.map V.str) := by
  rcases h with (h | ⟨o, h⟩) | h
  · refine .inl (.inl (k _ _ h fun e => ?_))
    rw [List.mem_singleton] at e
    subst e
    rw [hS] at h
    exact strs_ne zs s (HO.lst.inj (Option.some.inj h)).symm
  · refine .inl (.inr ⟨o, k _ _ h fun e => ?_⟩)
    rw [List.mem_singleton] at e
    subst e
    rw [hS] at h
    cases h
  · exact .inr h
theorem eqv_strs_nil (zs : List Str) : PyData.eqv (.list (zs.map PyData.str)) (.list []) = decide (zs = []) := by
  cases zs with
  | nil => rfl
  | cons c r => rfl
def spTurned (K : PySem.W.Frag) : Sp := fun vs H Q _ => ∃ (S a : Addr) (s : Int) (zs : List Str), vs = [.ref S, .ref a] ∧ H S = some (.lst [.int s]) ∧ Sd s ∧ SqL K H a (zs.map V.str) ∧ (∀ z ∈ zs, PyData.strOk z = true) ∧ zs.length ≤ 1000 ∧
  ∀ s' p ys H', Sd s' → List.Perm ys zs → H p = none → H' p = some (.lst (ys.map V.str)) → Kp [S] H H' → H' S = some (.lst [.int s']) → Q (.ref p) H'
theorem ok__law_turned {f : Addr} {fd : FuncData} (F : Fun K "_law_turned" "_law_turned" s_law_turned f fd) (B : Blt mg) (C : C1 P w K mg base) : FnOk P w K mg base CX0 2 f fd P_law_turned (spTurned K) := by
  refine F.ok sc_law_turned (fun vs H Q E h => by obtain ⟨S, a, s, zs, rfl, _⟩ := h; rfl) (fun cdv A outer s0 H vs Q E hr h => ?_)
  obtain ⟨S, a, s, zs, rfl, hS, hs, hZ, hok, hlen, q⟩ := h
  refine ⟨_, pss_cons (ps_set (i := 2) sc_law_turned.nd rfl (Or.inl rfl) (pe_callTy call_list_of (by rfl) B.list (by decide +kernel) (pa_cons (pv 1) pa_nil)))
  (pss_cons (ps_set (i := 3) sc_law_turned.nd rfl (Or.inl rfl) (pe_lst pa_nil))
  (pss_cons (ps_while PassesOwn.never (pt_cmpR (op_neD hr.units) (pv 2) (pe_lst pa_nil) (nomark _)) (pss_one (ps_expr (pe_bm PySem.F.plainAttrs_list PySem.F.slot_list_append PySem.F.type_list_append mt_append (pv 3) (pa_cons (pe_bm PySem.F.plainAttrs_list PySem.F.slot_list_pop PySem.F.type_list_pop mt_popAt (pv 2) (pa_cons (pe_cl C._law_next hr (by omega) (by rfl) (pa_cons (pv 0) (pa_cons (pe_callB call_len_seq (by rfl) B.len (by decide +kernel) (pa_cons (pv 2) pa_nil)) pa_nil))) pa_nil)) pa_nil)))))
  (pss_one (ps_ret (pv 3))))), ?_⟩
  have A := At.one hS
  walk_at "rd"
  refine ⟨_, _, rfl, .inl hZ, fun l1 hl1 => A.u2 hl1 fun H1 A1 => ?_⟩
  walk_at "rd"
  refine ⟨szl, fun l2 hl2 => A1.u2 hl2 fun H2 A2 => ?_⟩
  walk_at "rd"
  refine rd_while (fun m σ H' => ∃ (s : Int) (left found : List Str), Sd s ∧ left.length = m ∧ List.Perm (found ++ left) zs ∧ σ = [some (.ref S), some (.ref a), some (.ref l1), some (.ref l2)] ∧
    At [S] H H' [(S, .lst [.int s]), (l1, .lst (left.map V.str)), (l2, .lst (found.map V.str))] []) zs.length ⟨s, zs, [], hs, rfl, List.Perm.refl _, rfl, A2⟩ ?_
  rintro m σ H3 ⟨s, left, found, hs, rfl, hp, rfl, A3⟩
  have hlok : ∀ z ∈ left, PyData.strOk z = true := fun z hz => hok z (hp.mem_iff.mp (List.mem_append_right _ hz))
  have hll : found.length + left.length = zs.length := by rw [← List.length_append]; exact hp.length_eq
  walk_at "rd"
  refine ⟨szl, fun e he => ?_⟩
  refine ⟨.list (left.map PyData.str), .list [], .lst ((A3.skip (Sk.of he)).lst 1 rfl) (dp_strs _), .lst (.inl (.inl upd_same)) .nil, shaped_strs hlok, rfl, ?_⟩
  have A4 := A3.skip (Sk.of (o := .lst []) he)
  rw [eqv_strs_nil]
  refine rd_bl ?_
  refine rd_iteN (fun hne => ?_) (fun hnil => ?_)
  · have hpos : 0 < left.length := List.length_pos_iff.mpr hne
    refine ⟨_, fun _ _ h => h, ?_⟩
    walk_at "rd"
    refine ⟨.inl ⟨rfl, _, A4.lst 2 rfl⟩, ?_⟩
    walk_at "rd"
    refine ⟨.inl ⟨rfl, _, A4.lst 1 rfl⟩, ?_⟩
    walk_at "rd"
    refine ⟨_, _, rfl, .inl (A4.lst 1 rfl), ?_⟩
    rw [List.length_map]
    walk_at "rd"
    refine rd_next A4 0 rfl hs (by omega) fun s' r H5 hs' h0 h1 A5 => ?_
    walk_at "rd"
    have hr : r.toNat < left.length := by omega
    refine ⟨l1, left.map V.str, r, r.toNat, .str left[r.toNat], rfl, rfl, A5.get 1 rfl, by omega, by omega, PySem.StrLaws.seqIndex_nonneg h0 (by rw [List.length_map]; omega), by rw [List.getElem?_map, List.getElem?_eq_getElem hr]; rfl, ?_⟩
    refine A5.s2 1 rfl fun H6 A6 => ?_
    walk_at "rd"
    refine ⟨l2, _, _, rfl, rfl, A6.get 2 rfl, by rw [List.length_map]; exact szn' (by omega), ?_⟩
    have A7 := A6.set 2 rfl (.lst (found.map V.str ++ [.str left[r.toNat]]))
    refine ⟨left.length - 1, by omega, s', left.eraseIdx r.toNat, found ++ [left[r.toNat]], hs', by rw [List.length_eraseIdx_of_lt hr], ?_, rfl, ?_⟩
    · refine List.Perm.trans ?_ hp
      rw [List.append_assoc]
      refine List.Perm.append_left _ ?_
      exact erase_perm hr
    · rw [map_erase] at A7
      rw [List.map_append]
      exact A7
  · walk_at "rd"
    subst hnil
    rw [List.append_nil] at hp
    exact q s l2 found _ hs hp (A4.new0 2 rfl (by rw [List.mem_singleton]; exact A4.ne 2 0 rfl rfl (by decide))) (A4.get 2 rfl) A4.keep (A4.get 0 rfl)
end
end Nn

namespace Nn
open PySem PySem.Spec PyProof.Rows L2
local macro_rules | `(tactic| walk_at "rd1") => `(tactic| first
  | with_reducible refine' rd_c ?_
  | ((with_reducible refine' rd_var ?h ?_); (case h => rfl))
  | with_reducible refine' rd_op ?_
  | with_reducible refine' rd_I0 ?_
  | with_reducible refine' rd_seq ?_
  | ((with_reducible refine' rd_mod ?h ?_); (case h => decide))
  | ((with_reducible refine' rd_fdiv ?h ?_); (case h => exact ⟨by decide, by decide⟩))
  | ((with_reducible refine' rd_pow ?h ?_); (case h => exact ⟨by decide, by decide, by decide⟩))
  | ((with_reducible refine' rd_mul ?h ?_); (case h => first | exact Or.inl (by decide) | exact Or.inr (by decide)))
  | with_reducible refine' rd_set ?_
  | with_reducible refine' rd_asg ?_
  | with_reducible refine' rd_cons ?_
  | with_reducible refine' rd_nil ?_
  | with_reducible refine' rd_call ?_
  | with_reducible refine' rd_cb ?_
  | with_reducible refine' rd_if ?_
  | with_reducible refine' rd_test ?_
  | with_reducible refine' rd_B ?_
  | with_reducible refine' rd_bl ?_
  | ((with_reducible refine' rd_eq ?h ?_); (case h => rfl))
  | ((with_reducible refine' rd_ne ?h ?_); (case h => rfl))
  | with_reducible refine' rd_not ?_
  | with_reducible refine' rd_and ?_
  | with_reducible refine' rd_or ?_
  | with_reducible refine' rd_notV ?_
  | with_reducible refine' rd_chain ?_
  | with_reducible refine' rd_ret ?_
  | with_reducible refine' rd_drop ?_
  | with_reducible refine' rd_next' ?_
  | with_reducible refine' rd_lst ?_
  | with_reducible refine' rd_tup ?_
  | with_reducible refine' rd_lc ?_
  | with_reducible refine' rd_rng1 ?_
  | with_reducible refine' rd_istr ?_
  | with_reducible refine' rd_ilst ?_
  | with_reducible refine' rd_ienum ?_
  | with_reducible refine' rd_bm0 ?_
  | with_reducible refine' rd_bm ?_
  | with_reducible refine' rd_m1 ?_
  | with_reducible refine' rd_sl ?_
  | with_reducible refine' rd_po0 ?_
  | with_reducible refine' rd_po1 ?_
  | with_reducible refine' rd_in ?_
  | with_reducible refine' rd_sub ?_
  | with_reducible refine' rd_ifE ?_
  | with_reducible refine' rd_un ?_
  | with_reducible refine' rd_U ?_
  | with_reducible refine' rd_brk ?_
  | with_reducible refine' rd_cont ?_
  | with_reducible refine' rd_yes ?_
  | with_reducible refine' rd_T ?_
  | with_reducible refine' rd_F ?_
  | with_reducible refine' rd_nT ?_
  | with_reducible refine' rd_nF ?_
  | with_reducible refine' rd_dni ?_
  | with_reducible refine' rd_di ?_
  | with_reducible refine' rd_dget ?_
  | with_reducible refine' rd_dget1 ?_
  | with_reducible refine' rd_dget2 ?_
  | with_reducible refine' rd_dput ?_
  | with_reducible refine' rd_dnew ?_
  | with_reducible refine' rd_ikeys ?_
  | with_reducible refine' rd_gn ?_
  | with_reducible refine' rd_for ?_
  | with_reducible refine' rd_make ?_
  | with_reducible refine' rd_meth ?_
  | with_reducible refine' rd_fld ?_
  | with_reducible refine' rd_sfld ?_
  | with_reducible refine' rd_dc ?_
  | with_reducible refine' rd_items ?_
  | with_reducible refine' rd_sadd ?_
  | with_reducible refine' rd_ivals ?_)
local macro_rules | `(tactic| walk_at "sub") => `(tactic| repeat' (first | exact List.nil_sublist _ | exact List.Sublist.refl _ | apply List.Sublist.cons₂ | apply List.Sublist.cons))
local macro_rules | `(tactic| walk_at "rd") => `(tactic| repeat walk_at "rd1")

section
variable {P : Program} {w : World} {K : PySem.W.Frag} {mg : Str → Option Value} {base : Heap}
/-! ### things -/
def scalV (v : V) : Prop := (∃ i, v = .int i) ∨ ∃ z, v = .str z ∧ PyData.strOk z = true
def spThing : Sp := fun vs H Q _ => ∃ (S : Addr) (s : Int), vs = [.ref S] ∧ H S = some (.lst [.int s]) ∧ Sd s ∧ ∀ s' v H', Sd s' → scalV v → Kp [S] H H' → H' S = some (.lst [.int s']) → Q v H'
theorem ok__law_thing {f : Addr} {fd : FuncData} (F : Fun K "_law_thing" "_law_thing" s_law_thing f fd) (B : Blt mg) (C : C1 P w K mg base) : FnOk P w K mg base CX0 2 f fd P_law_thing spThing := by
  refine F.ok sc_law_thing (fun vs H Q E h => by obtain ⟨S, s, rfl, _⟩ := h; rfl) (fun cdv A outer s0 H vs Q E hr h => ?_)
  obtain ⟨S, s, rfl, hS, hs, q⟩ := h
  refine ⟨_, pss_cons (ps_set (i := 1) sc_law_thing.nd rfl (Or.inl rfl) (pe_op op_add (pe_op op_mul (pe_cl C._law_next hr (by omega) (by rfl) (pa_cons (pv 0) (pa_cons (pe_op op_pow pe_int pe_int) pa_nil))) (pe_op op_pow pe_int pe_int)) (pe_cl C._law_next hr (by omega) (by rfl) (pa_cons (pv 0) (pa_cons (pe_op op_pow pe_int pe_int) pa_nil)))))
  (pss_one (ps_ret (pe_ix ix_list (pe_lst (pa_cons pe_int (pa_cons pe_int (pa_cons (pe_un un_neg pe_int) (pa_cons pe_str (pa_cons pe_str (pa_cons (pv 1) (pa_cons (pe_op op_sub pe_int (pv 1)) (pa_cons pe_str pa_nil))))))))) (pe_cl C._law_next hr (by omega) (by rfl) (pa_cons (pv 0) (pa_cons pe_int pa_nil))) (fun _ _ => rfl)))), ?_⟩
  have A := At.one hS
  have e31 : (2 : Int) ^ Int.toNat 31 = 2147483648 := by decide
  walk_at "rd"
  rw [e31]
  refine rd_next A 0 rfl hs (by decide) fun s1 r1 H1 hs1 h0 h1 A1 => ?_
  walk_at "rd"
  refine rd_mul (Or.inl ⟨by omega, by omega⟩) ?_
  walk_at "rd"
  rw [e31]
  refine rd_next A1 0 rfl hs1 (by decide) fun s2 r2 H2 hs2 h2 h3 A2 => ?_
  walk_at "rd"
  generalize r1 * 10 ^ Int.toNat 50 + r2 = far
  refine ⟨szl, fun p hp => A2.u2 hp fun H3 A3 => ?_⟩
  walk_at "rd"
  refine rd_next A3 0 rfl hs2 (by decide) fun s4 r4 H4 hs4 h4 h5 A4 => ?_
  obtain ⟨x, hx, e⟩ := atI_ex (xs := [V.int 0, .int 7, .int (-1), .str "a", .str "", .int far, .int (0 - far), .str "a-b c"]) h4 h5
  refine rd_ixL (A4.lst 1 rfl) e ?_
  refine q s4 x H4 hs4 ?_ A4.keep (A4.get 0 rfl)
  simp only [List.mem_cons, List.not_mem_nil, or_false] at hx
  rcases hx with rfl | rfl | rfl | rfl | rfl | rfl | rfl | rfl
  · exact .inl ⟨_, rfl⟩
  · exact .inl ⟨_, rfl⟩
  · exact .inl ⟨_, rfl⟩
  · exact .inr ⟨_, rfl, by decide +kernel⟩
  · exact .inr ⟨_, rfl, by decide +kernel⟩
  · exact .inl ⟨_, rfl⟩
  · exact .inl ⟨_, rfl⟩
  · exact .inr ⟨_, rfl, by decide +kernel⟩
section
variable {M : List Addr} {H0 H : Hp} {L T : List (Addr × HO)} {S a : Addr} {s n : Int} {Q : VK} {E : XK}
theorem rd_pool (A : At M H0 H L T) (i : Nat) (h : L[i]? = some (S, .lst [.int s])) (hs : Sd s) (q : ∀ s' p ps H', Sd s' → Pool ps → At M H0 H' (L.set i (S, .lst [.int s']) ++ [(p, .lst (ps.map V.str))]) T → Q (.ref p) H') : spPool [.ref S] H Q E :=
  ⟨S, s, rfl, A.in h, hs, fun s' p ps H' a b c d e g => q s' p ps H' a b (A.add (A.c1 i h e g) (map_set_fst L i h) c d)⟩
theorem rd_turned (A : At M H0 H L T) (i : Nat) (h : L[i]? = some (S, .lst [.int s])) (hs : Sd s) {zs : List Str} (hz : SqL K H a (zs.map V.str)) (hok : ∀ z ∈ zs, PyData.strOk z = true) (hl : zs.length ≤ 1000)
    (q : ∀ s' p ys H', Sd s' → List.Perm ys zs → At M H0 H' (L.set i (S, .lst [.int s']) ++ [(p, .lst (ys.map V.str))]) T → Kp [S] H H' → Q (.ref p) H') : spTurned K [.ref S, .ref a] H Q E :=
  ⟨S, a, s, zs, rfl, A.in h, hs, hz, hok, hl, fun s' p ys H' a b c d e g => q s' p ys H' a b (A.add (A.c1 i h e g) (map_set_fst L i h) c d) e⟩
theorem rd_thing (A : At M H0 H L T) (i : Nat) (h : L[i]? = some (S, .lst [.int s])) (hs : Sd s) (q : ∀ s' v H', Sd s' → scalV v → At M H0 H' (L.set i (S, .lst [.int s'])) T → Q v H') : spThing [.ref S] H Q E :=
  ⟨S, s, rfl, A.in h, hs, fun s' v H' a b e g => q s' v H' a b (A.c1 i h e g)⟩
end
theorem cut_to (xs : List V) (i : Int) (h : 0 ≤ i) : cutV xs none (some i) = xs.take i.toNat := by
  obtain ⟨j, rfl⟩ := Int.eq_ofNat_of_zero_le h
  unfold cutV
  rw [HT.sIx_none, HT.sIx_nat, List.drop_zero, Nat.sub_zero]
  show xs.take (min j xs.length) = xs.take j
  rw [← List.take_eq_take_min]
/-- a dict of texts and values, as pairs -/
def dk (td : List (Str × V)) : List (Key × V) := td.map fun e => ((Sum.inr e.1 : Key), e.2)
theorem dk_keys (td : List (Str × V)) : (dk td).map (·.1) = (td.map (·.1)).map Sum.inr := by unfold dk; rw [List.map_map, List.map_map]; rfl
theorem valV_dk (td : List (Str × V)) (k : Str) : valV (dk td) (Sum.inr k) = (td.find? fun e => decide (e.1 = k)).map (·.2) := by
  induction td with
  | nil => rfl
  | cons e r ih =>
    show valV ((Sum.inr e.1, e.2) :: dk r) (Sum.inr k) = _
    by_cases h : e.1 = k
    · rw [valV_pos (by rw [h]), List.find?_cons_of_pos (by simpa using h)]; rfl
    · rw [valV_neg (fun q => h (Sum.inr.inj q)), ih, List.find?_cons_of_neg (by simpa using h)]
theorem valV_dk_some (td : List (Str × V)) (k : Str) : (valV (dk td) (Sum.inr k)).isSome = decide (k ∈ td.map (·.1)) := by
  rw [← valV_any]
  unfold dk
  induction td with
  | nil => rfl
  | cons e r ih =>
    rw [List.map_cons, List.any_cons, ih, List.map_cons]
    by_cases h : e.1 = k
    · rw [decide_eq_true (by rw [h]), Bool.true_or, decide_eq_true (by rw [h]; exact List.mem_cons_self)]
    · rw [decide_eq_false (fun q => h (Sum.inr.inj q)), Bool.false_or]
      exact decide_eq_decide.mpr ⟨List.mem_cons_of_mem _, fun q => (List.mem_cons.mp q).resolve_left fun z => h z.symm⟩
theorem merge_nodup : ∀ (td acc : List (Str × V)), ((acc ++ td).map (·.1)).Nodup → mergeK (dk acc) (dk td) = dk (acc ++ td)
  | [], acc, _ => by rw [List.append_nil]; rfl
  | e :: r, acc, h => by
    show mergeK (putK (dk acc) (Sum.inr e.1) e.2) (dk r) = _
    have hn : valV (dk acc) (Sum.inr e.1) = none := by
      rw [valV_dk]
      have : (acc.find? fun x => decide (x.1 = e.1)) = none := by
        rw [List.find?_eq_none]
        intro x hx
        rw [List.map_append, List.nodup_append] at h
        have := h.2.2 x.1 (List.mem_map_of_mem (f := Prod.fst) hx) e.1 (List.mem_map_of_mem (f := Prod.fst) List.mem_cons_self)
        simpa using this
      rw [this]; rfl
    rw [putK_new _ hn]
    have e1 : dk acc ++ [((Sum.inr e.1 : Key), e.2)] = dk (acc ++ [e]) := by unfold dk; rw [List.map_append]; rfl
    rw [e1, merge_nodup r (acc ++ [e]) (by rw [List.append_assoc]; exact h), List.append_assoc]; rfl
structure Things (ps : List Str) (td : List (Str × V)) : Prop where
  nd : (td.map (·.1)).Nodup
  sub : ∀ z ∈ td.map (·.1), z ∈ ps
  len : td.length ≤ 10
  sc : ∀ e ∈ td, scalV e.2
/-- a tuple of a text and a value at its address -/
def tE (x : Addr × (Str × V)) : Addr × HO := (x.1, .tup [.str x.2.1, x.2.2])
structure C2 (P : Program) (w : World) (K : PySem.W.Frag) (mg : Str → Option Value) (base : Heap) : Prop extends C1 P w K mg base where
  _law_turned : Cl P w K mg base 2 "_law_turned" (spTurned K)
  _law_thing : Cl P w K mg base 2 "_law_thing" spThing
def spThings (K : PySem.W.Frag) : Sp := fun vs H Q _ => ∃ (S a : Addr) (s : Int) (ps : List Str), vs = [.ref S, .ref a] ∧ H S = some (.lst [.int s]) ∧ Sd s ∧ SqL K H a (ps.map V.str) ∧ Pool ps ∧
  ∀ s' p td H', Sd s' → Things ps td → H p = none → H' p = some (.dK (dk td)) → Kp [S] H H' → H' S = some (.lst [.int s']) → Q (.ref p) H'
theorem ok__law_things {f : Addr} {fd : FuncData} (F : Fun K "_law_things" "_law_things" s_law_things f fd) (B : Blt mg) (C : C2 P w K mg base) : FnOk P w K mg base CX0 3 f fd P_law_things (spThings K) := by
  refine F.ok sc_law_things (fun vs H Q E h => by obtain ⟨S, a, s, ps, rfl, _⟩ := h; rfl) (fun cdv A outer s0 H vs Q E hr h => ?_)
  obtain ⟨S, a, s, ps, rfl, hS, hs, hZ, hp, q⟩ := h
  refine ⟨_, pss_cons (ps_set (i := 2) sc_law_things.nd rfl (Or.inl rfl) (pe_slice sl_list (pe_cl C._law_turned hr (by omega) (by rfl) (pa_cons (pv 0) (pa_cons (pe_slice sl_list (pv 1) po_none (po_some pe_int)) pa_nil))) po_none (po_some (pe_cl C._law_next hr (by omega) (by rfl) (pa_cons (pv 0) (pa_cons pe_int pa_nil))))))
  (pss_one (ps_ret (pe_callTy (call_dictP rfl) (by rfl) B.dict (by decide +kernel) (pa_cons (pe_lc (own := [("_law_name", 3)]) rfl sc_law_things.nd (pi_list (pv 2)) (blkOk_by (N := N_law_things) (sc := defScope s_law_things) (by decide +kernel)) (fun _ _ _ _ _ => (pg_name (i := 3) sc_law_things.nd rfl (Or.inl rfl))) (fun _ _ _ _ _ => pts_nil) (fun _ _ _ _ _ => (pe_tup (pa_cons (pv 3) (pa_cons (pe_cl C._law_thing hr (by omega) (by rfl) (pa_cons (pv 0) pa_nil)) pa_nil))))) pa_nil)))), ?_⟩
  have A := At.one hS
  walk_at "rd"
  refine rd_slL A hZ fun p1 H1 A1 => ?_
  rw [cut_to _ _ (by decide), show Int.toNat 10 = 10 from rfl, ← List.map_take] at A1
  walk_at "rd"
  have hok : ∀ z ∈ ps.take 10, PyData.strOk z = true := fun z hz => nameOk_ok (hp.ok z (List.mem_of_mem_take hz))
  have hl10 : (ps.take 10).length ≤ 10 := List.length_take_le _ _
  refine rd_turned A1 0 rfl hs (A1.lst 1 rfl) hok (by omega) fun s2 p2 ys H2 hs2 hperm A2 _ => ?_
  walk_at "rd"
  refine rd_next A2 0 rfl hs2 (by decide) fun s3 r H3 hs3 h0 h1 A3 => ?_
  walk_at "rd"
  refine rd_slL A3 (A3.lst 2 rfl) fun p4 H4 A4 => ?_
  rw [cut_to _ _ h0, ← List.map_take] at A4
  walk_at "rd"
  have nd : (ys.take r.toNat).Nodup := (hperm.nodup_iff.mpr (hp.nd.sublist (List.take_sublist _ _))).sublist (List.take_sublist _ _)
  have hys : ∀ z ∈ ys.take r.toNat, z ∈ ps := fun z hz => List.mem_of_mem_take (hperm.mem_iff.mp (List.mem_of_mem_take hz))
  have hyl : (ys.take r.toNat).length ≤ 10 := by
    have := List.length_take_le r.toNat ys
    have := hperm.length_eq
    rw [List.length_take]
    omega
  generalize ys.take r.toNat = names at *
  refine ⟨p4, rfl, ⟨_, A4.lst 3 rfl⟩, fun D hD => ?_⟩
  refine lc_it (walk_list (xs := names.map V.str)) (fun i H' => ∃ (s : Int) (te : List (Addr × (Str × V))), Sd s ∧ te.map (·.2.1) = names.take i ∧ (∀ x ∈ te, scalV x.2.2) ∧
    At [S] H H' [(S, .lst [.int s]), (p1, .lst ((ps.take 10).map V.str)), (p2, .lst (ys.map V.str)), (p4, .lst (names.map V.str)), (D, .lst (te.map fun x => V.ref x.1))] (te.map tE))
    ⟨s3, [], hs3, rfl, by simp, A4.snoc hD _⟩ (fun i H' _ ⟨_, _, _, _, _, A5⟩ => A5.lst 3 rfl) ?_ ?_
  · rintro i x H5 H5' hi ⟨s, te, hs, hte, hsc, A5⟩ ⟨rfl, hx⟩
    have hi' : i < names.length := by rw [List.length_map] at hi; exact hi
    have ex : x = .str names[i] := by
      rw [List.getElem?_map, List.getElem?_eq_getElem hi'] at hx
      exact (Option.some.inj hx).symm
    subst ex
    have htl : te.length = i := by
      have := congrArg List.length hte
      rw [List.length_map, List.length_take] at this
      omega
    refine ⟨rfl, ?_⟩
    walk_at "rd"
    refine rd_thing A5 0 rfl hs fun s' v H6 hs' hv A6 => ?_
    walk_at "rd"
    refine ⟨szl, fun t ht => ?_⟩
    have A7 := A6.snocT ht (.tup [.str names[i], v])
    have A8 := A7.set 4 rfl (.lst ((te.map fun x => V.ref x.1) ++ [.ref t]))
    refine ⟨_, A7.get 4 rfl, by rw [List.length_map]; exact szn' (by omega), s', te ++ [(t, (names[i], v))], hs', ?_, ?_, ?_⟩
    · rw [List.map_append, hte, List.take_add_one, List.getElem?_eq_getElem hi']; rfl
    · intro x hx
      rcases List.mem_append.mp hx with hx | hx
      · exact hsc x hx
      · rw [List.mem_singleton] at hx; subst hx; exact hv
    · rw [List.map_append, List.map_append]
      exact A8
  · rintro H5 ⟨s, te, hs, hte, hsc, A5⟩
    rw [List.length_map, List.take_length] at hte
    walk_at "rd"
    refine ⟨D, te.map (·.1), dk (te.map (·.2)), rfl, ?_, ?_, fun p hp => ?_⟩
    · rw [List.map_map]; exact A5.lst 4 rfl
    · rw [dk, List.map_map]
      exact paired_map fun x hx => .inl (.inl (A5.tm _ (List.mem_map_of_mem (f := tE) hx)))
    · have A6 := A5.snoc hp (.dK (mergeK [] (dk (te.map (·.2)))))
      have e1 : (te.map (·.2)).map (·.1) = names := by rw [List.map_map]; exact hte
      have em : mergeK [] (dk (te.map (·.2))) = dk (te.map (·.2)) := merge_nodup _ [] (by rw [List.nil_append, e1]; exact nd)
      rw [em] at A6 ⊢
      refine q s p (te.map (·.2)) _ hs ⟨by rw [e1]; exact nd, by rw [e1]; exact hys, ?_, ?_⟩ (A6.new0 5 rfl (by rw [List.mem_singleton]; exact A6.ne 5 0 rfl rfl (by decide))) (A6.get 5 rfl) A6.keep (A6.get 0 rfl)
      · have := congrArg List.length hte
        rw [List.length_map] at this ⊢
        omega
      · intro e he
        obtain ⟨x, hx, rfl⟩ := List.mem_map.mp he
        exact hsc x hx
end
end Nn

namespace Nn
open PySem PySem.Spec PyProof.Rows L2
local macro_rules | `(tactic| walk_at "rd1") => `(tactic| first
  | with_reducible refine' rd_c ?_
  | ((with_reducible refine' rd_var ?h ?_); (case h => rfl))
  | with_reducible refine' rd_op ?_
  | with_reducible refine' rd_I0 ?_
  | with_reducible refine' rd_seq ?_
  | ((with_reducible refine' rd_mod ?h ?_); (case h => decide))
  | ((with_reducible refine' rd_fdiv ?h ?_); (case h => exact ⟨by decide, by decide⟩))
  | ((with_reducible refine' rd_pow ?h ?_); (case h => exact ⟨by decide, by decide, by decide⟩))
  | ((with_reducible refine' rd_mul ?h ?_); (case h => first | exact Or.inl (by decide) | exact Or.inr (by decide)))
  | with_reducible refine' rd_set ?_
  | with_reducible refine' rd_asg ?_
  | with_reducible refine' rd_cons ?_
  | with_reducible refine' rd_nil ?_
  | with_reducible refine' rd_call ?_
  | with_reducible refine' rd_cb ?_
  | with_reducible refine' rd_if ?_
  | with_reducible refine' rd_test ?_
  | with_reducible refine' rd_B ?_
  | with_reducible refine' rd_bl ?_
  | ((with_reducible refine' rd_eq ?h ?_); (case h => rfl))
  | ((with_reducible refine' rd_ne ?h ?_); (case h => rfl))
  | with_reducible refine' rd_not ?_
  | with_reducible refine' rd_and ?_
  | with_reducible refine' rd_or ?_
  | with_reducible refine' rd_notV ?_
  | with_reducible refine' rd_chain ?_
  | with_reducible refine' rd_ret ?_
  | with_reducible refine' rd_drop ?_
  | with_reducible refine' rd_next' ?_
  | with_reducible refine' rd_lst ?_
  | with_reducible refine' rd_tup ?_
  | with_reducible refine' rd_lc ?_
  | with_reducible refine' rd_rng1 ?_
  | with_reducible refine' rd_istr ?_
  | with_reducible refine' rd_ilst ?_
  | with_reducible refine' rd_ienum ?_
  | with_reducible refine' rd_bm0 ?_
  | with_reducible refine' rd_bm ?_
  | with_reducible refine' rd_m1 ?_
  | with_reducible refine' rd_sl ?_
  | with_reducible refine' rd_po0 ?_
  | with_reducible refine' rd_po1 ?_
  | with_reducible refine' rd_in ?_
  | with_reducible refine' rd_sub ?_
  | with_reducible refine' rd_ifE ?_
  | with_reducible refine' rd_un ?_
  | with_reducible refine' rd_U ?_
  | with_reducible refine' rd_brk ?_
  | with_reducible refine' rd_cont ?_
  | with_reducible refine' rd_yes ?_
  | with_reducible refine' rd_T ?_
  | with_reducible refine' rd_F ?_
  | with_reducible refine' rd_nT ?_
  | with_reducible refine' rd_nF ?_
  | with_reducible refine' rd_dni ?_
  | with_reducible refine' rd_di ?_
  | with_reducible refine' rd_dget ?_
  | with_reducible refine' rd_dget1 ?_
  | with_reducible refine' rd_dget2 ?_
  | with_reducible refine' rd_dput ?_
  | with_reducible refine' rd_dnew ?_
  | with_reducible refine' rd_ikeys ?_
  | with_reducible refine' rd_gn ?_
  | with_reducible refine' rd_for ?_
  | with_reducible refine' rd_make ?_
  | with_reducible refine' rd_meth ?_
  | with_reducible refine' rd_fld ?_
  | with_reducible refine' rd_sfld ?_
  | with_reducible refine' rd_dc ?_
  | with_reducible refine' rd_items ?_
  | with_reducible refine' rd_sadd ?_
  | with_reducible refine' rd_ivals ?_)
local macro_rules | `(tactic| walk_at "sub") => `(tactic| repeat' (first | exact List.nil_sublist _ | exact List.Sublist.refl _ | apply List.Sublist.cons₂ | apply List.Sublist.cons))
local macro_rules | `(tactic| walk_at "rd") => `(tactic| repeat walk_at "rd1")

section
variable {P : Program} {w : World} {K : PySem.W.Frag} {mg : Str → Option Value} {base : Heap}
/-! ### pairs -/
/-- a tuple of an old and a new name at its address -/
def tP (x : Addr × (Str × Option Str)) : Addr × HO := (x.1, .tup [.str x.2.1, ov x.2.2])
structure Pairs (ps : List Str) (td : List (Str × V)) (prs : List (Str × Option Str)) : Prop where
  oldsNd : (prs.map (·.1)).Nodup
  newsNd : (prs.filterMap (·.2)).Nodup
  olds : ∀ z ∈ prs.map (·.1), z ∈ td.map (·.1)
  news : ∀ z ∈ prs.filterMap (·.2), z ∈ ps ∧ (z ∈ td.map (·.1) → z ∈ prs.map (·.1))
  len : prs.length ≤ 10
theorem Kp.strs' {N : List Addr} {a : Addr} {H H' : Hp} {zs : List Str} (k : Kp N H H') (hN : ∀ b ∈ N, ∃ o, H b = some o ∧ (∀ zs : List Str, o ≠ .lst (zs.map V.str)) ∧ ∀ ob u, o ≠ .frz ob u) (h : SqL K H a (zs.map V.str)) : SqL K H' a (zs.map V.str) := by
  rcases h with (h | ⟨o, h⟩) | h
  · refine .inl (.inl (k _ _ h fun hn => ?_))
    obtain ⟨o, e, n1, _⟩ := hN a hn
    rw [h] at e
    exact n1 zs (Option.some.inj e).symm
  · refine .inl (.inr ⟨o, k _ _ h fun hn => ?_⟩)
    obtain ⟨o', e, _, n2⟩ := hN a hn
    rw [h] at e
    exact n2 _ _ (Option.some.inj e).symm
  · exact .inr h
theorem st_no (s : Int) : (∀ zs : List Str, HO.lst [V.int s] ≠ .lst (zs.map V.str)) ∧ ∀ ob u, HO.lst [V.int s] ≠ .frz ob u := ⟨fun zs e => strs_ne zs s (HO.lst.inj e).symm, fun _ _ e => by cases e⟩
theorem dk_no (kvs : List (Key × V)) : (∀ zs : List Str, HO.dK kvs ≠ .lst (zs.map V.str)) ∧ ∀ ob u, HO.dK kvs ≠ .frz ob u := ⟨fun _ e => (by cases e), fun _ _ e => (by cases e)⟩
def spPairs (K : PySem.W.Frag) : Sp := fun vs H Q _ => ∃ (S a d : Addr) (s : Int) (ps : List Str) (td : List (Str × V)), vs = [.ref S, .ref a, .ref d] ∧ H S = some (.lst [.int s]) ∧ Sd s ∧ SqL K H a (ps.map V.str) ∧ H d = some (.dK (dk td)) ∧ Pool ps ∧ Things ps td ∧
  ∀ s' p (te : List (Addr × (Str × Option Str))) H', Sd s' → Pairs ps td (te.map (·.2)) → H p = none → H' p = some (.lst (te.map fun x => V.ref x.1)) → (∀ x ∈ te.map tP, H x.1 = none ∧ H' x.1 = some x.2) → Kp [S] H H' → H' S = some (.lst [.int s']) → Q (.ref p) H'
theorem ok__law_pairs {f : Addr} {fd : FuncData} (F : Fun K "_law_pairs" "_law_pairs" s_law_pairs f fd) (B : Blt mg) (C : C2 P w K mg base) : FnOk P w K mg base CX0 3 f fd P_law_pairs (spPairs K) := by
  refine F.ok sc_law_pairs (fun vs H Q E h => by obtain ⟨S, a, d, s, ps, td, rfl, _⟩ := h; rfl) (fun cdv A outer s0 H vs Q E hr h => ?_)
  obtain ⟨S, a, d, s, ps, td, rfl, hS, hs, hZ, hd, hp, ht, q⟩ := h
  refine ⟨_, pss_cons (ps_lock (ps_setLc (i := 3) (own := [("_law_name", 7)]) rfl sc_law_pairs.nd rfl rfl (sw_true rfl rfl rfl (by decide +kernel)) (pi_keys (pv 2)) (blkOk_by (N := N_law_pairs) (sc := defScope s_law_pairs) (by decide +kernel)) (fun _ _ _ _ _ => (pg_name (i := 7) sc_law_pairs.nd rfl (Or.inl rfl))) (fun _ _ _ _ _ => pts_one (pt_cmpR op_gt (pe_cl C._law_next hr (by omega) (by rfl) (pa_cons (pv 0) (pa_cons pe_int pa_nil))) pe_int (nomark _))) (fun _ _ _ _ _ => (pv 7))))
  (pss_cons (ps_setLc (i := 4) (own := [("_law_name", 7)]) rfl sc_law_pairs.nd rfl rfl (sw_true rfl rfl rfl (by decide +kernel)) (pi_list (pe_slice sl_list (pv 1) po_none (po_some pe_int))) (blkOk_by (N := N_law_pairs) (sc := defScope s_law_pairs) (by decide +kernel)) (fun _ _ _ _ _ => (pg_name (i := 7) sc_law_pairs.nd rfl (Or.inl rfl))) (fun _ _ _ _ _ => pts_one (pt_cmp (pc_dnotin (hu_of hr) (pv 7) (pv 2)))) (fun _ _ _ _ _ => (pv 7)))
  (pss_cons (ps_set (i := 5) sc_law_pairs.nd rfl (Or.inl rfl) (pe_op op_cat (pv 3) (pe_slice sl_list (pv 4) po_none (po_some (pe_op op_mul (pe_callB call_len_seq (by rfl) B.len (by decide +kernel) (pa_cons (pv 4) pa_nil)) (pe_callTy call_int1 (by rfl) B.int (by decide +kernel) (pa_cons (pe_cmpR op_gt (pe_cl C._law_next hr (by omega) (by rfl) (pa_cons (pv 0) (pa_cons pe_int pa_nil))) pe_int (nomark _)) pa_nil)))))))
  (pss_cons (ps_set (i := 5) sc_law_pairs.nd rfl (Or.inl rfl) (pe_cl C._law_turned hr (by omega) (by rfl) (pa_cons (pv 0) (pa_cons (pv 5) pa_nil))))
  (pss_cons (ps_set (i := 6) sc_law_pairs.nd rfl (Or.inl rfl) (pe_lst pa_nil))
  (pss_cons (ps_for PassesOwn.never rfl (pi_list (pe_cl C._law_turned hr (by omega) (by rfl) (pa_cons (pv 0) (pa_cons (pv 3) pa_nil)))) (pg_name (i := 7) sc_law_pairs.nd rfl (Or.inl rfl))
   (pss_one (ps_expr (pe_bm PySem.F.plainAttrs_list PySem.F.slot_list_append PySem.F.type_list_append mt_append (pv 6) (pa_cons (pe_tup (pa_cons (pv 7) (pa_cons (pe_bm0 PySem.F.plainAttrs_list PySem.F.slot_list_pop PySem.F.type_list_pop mt_pop (pv 5)) pa_nil))) pa_nil)))))
  (Evl.pss_cut (ps_if (pt_cmpR op_eq (pe_cl C._law_next hr (by omega) (by rfl) (pa_cons (pv 0) (pa_cons pe_int pa_nil))) pe_int (nomark _)) (pss_one (ps_setLc (i := 6) (own := [("_law_old", 8), ("_law_new", 9)]) rfl sc_law_pairs.nd rfl rfl (sw_true rfl rfl rfl (by decide +kernel)) (pi_list (pv 6)) (blkOk_by (N := N_law_pairs) (sc := defScope s_law_pairs) (by decide +kernel)) (fun _ _ _ _ _ => (pg_tup' (n := 2) (K := K) rfl rfl (pgs_cons (pg_name (i := 8) sc_law_pairs.nd rfl (Or.inl rfl)) (pgs_cons (pg_name (i := 9) sc_law_pairs.nd rfl (Or.inl rfl)) pgs_nil)))) (fun _ _ _ _ _ => pts_nil) (fun _ _ _ _ _ => (pe_tup (pa_cons (pv 8) (pa_cons (pe_ix (ix_list' (K := K) rfl) (pe_lst (pa_cons (pv 9) (pa_cons pe_non pa_nil))) (pe_callTy call_int1 (by rfl) B.int (by decide +kernel) (pa_cons (pe_cmpR op_eq (pe_cl C._law_next hr (by omega) (by rfl) (pa_cons (pv 0) (pa_cons pe_int pa_nil))) pe_int (nomark _)) pa_nil)) (fun _ _ => rfl)) pa_nil))))))
   (pss_nil))
  (pss_one (ps_ret (pv 6))))))))), ?_⟩
  have hne : S ≠ d := ne_of hS hd (by intro e; cases e)
  have A := At.two hS hd hne
  walk_at "rd"
  -- movers
  refine rd_lock hd trivial fun od => ?_
  have A1 := A.set 1 rfl (.frz od (.dK (dk td)))
  walk_at "rd"
  refine ⟨d, od, rfl, .inl ⟨dk td, A1.get 1 rfl, fun D hD => ?_⟩⟩
  refine lc_it walk_keys (fun i H' => ∃ (s : Int) (mv : List Str), Sd s ∧ mv.Sublist ((td.map (·.1)).take i) ∧ At [S, d] H H' [(S, .lst [.int s]), (d, .frz od (.dK (dk td))), (D, .lst (mv.map V.str))] [])
    ⟨s, [], hs, List.nil_sublist _, A1.snoc hD _⟩ (fun i H' _ ⟨_, _, _, _, A5⟩ => A5.get 1 rfl) ?_ ?_
  · rintro i x H5 H5' hi ⟨s, mv, hs, hmv, A5⟩ ⟨rfl, k, v, hk, rfl⟩
    have hi' : i < td.length := by unfold dk at hi; rw [List.length_map] at hi; exact hi
    have ek : k = .inr td[i].1 := by
      unfold dk at hk
      rw [List.getElem?_map, List.getElem?_eq_getElem hi'] at hk
      exact (Prod.mk.inj (Option.some.inj hk)).1.symm
    subst ek
    have ets : (td.map (·.1)).take (i + 1) = (td.map (·.1)).take i ++ [td[i].1] := by
      rw [List.take_add_one, List.getElem?_map, List.getElem?_eq_getElem hi']; rfl
    refine ⟨rfl, ?_⟩
    walk_at "rd"
    refine rd_next A5 0 rfl hs (by decide) fun s' r H6 hs' h0 h1 A6 => ?_
    walk_at "rd"
    refine rd_ite (fun _ => ?_) (fun _ => ?_)
    · walk_at "rd"
      have A7 := A6.set 2 rfl (.lst (mv.map V.str ++ [.str td[i].1]))
      refine ⟨_, A6.get 2 rfl, by rw [List.length_map]; have := hmv.length_le; rw [List.length_take, List.length_map] at this; have := ht.len; exact szn' (by omega), s', mv ++ [td[i].1], hs', ?_, ?_⟩
      · rw [ets]; exact hmv.append (List.Sublist.refl _)
      · rw [List.map_append]; exact A7
    · exact ⟨s', mv, hs', by rw [ets]; exact hmv.trans (List.sublist_append_left _ _), A6⟩
  rintro H5 ⟨s1, mv, hs1, hmv, A5⟩
  refine ⟨A5.get 1 rfl, ?_⟩
  refine A5.s1 1 rfl fun H6 A6 => ?_
  clear A1 A hD
  have hmv : mv.Sublist (td.map (·.1)) := by unfold dk at hmv; rw [List.length_map, ← List.length_map (f := fun e : Str × V => e.1), List.take_length] at hmv; exact hmv
  have hZ' : ∀ {H' : Hp}, Kp [S, d] H H' → SqL K H' a (ps.map V.str) := fun k => k.strs' (by
    intro b hb
    simp only [List.mem_cons, List.not_mem_nil, or_false] at hb
    rcases hb with rfl | rfl
    · exact ⟨_, hS, st_no s⟩
    · exact ⟨_, hd, dk_no _⟩) hZ
  walk_at "rd"
  -- free
  refine rd_slL A6 (hZ' A6.keep) fun pF H7 A7 => ?_
  rw [cut_to _ _ (by decide), show Int.toNat 12 = 12 from rfl, ← List.map_take] at A7
  refine ⟨pF, rfl, ⟨_, A7.lst 3 rfl⟩, fun D2 hD2 => ?_⟩
  refine lc_it (walk_list (xs := (ps.take 12).map V.str)) (fun i H' => ∃ (fr : List Str), fr.Sublist ((ps.take 12).take i) ∧ (∀ z ∈ fr, z ∉ td.map (·.1)) ∧
      At [S, d] H H' [(S, .lst [.int s1]), (d, .dK (dk td)), (D, .lst (mv.map V.str)), (pF, .lst ((ps.take 12).map V.str)), (D2, .lst (fr.map V.str))] [])
    ⟨[], List.nil_sublist _, by simp, A7.snoc hD2 _⟩ (fun i H' _ ⟨_, _, _, A5⟩ => A5.lst 3 rfl) ?_ ?_
  · rintro i x H8 H8' hi ⟨fr, hfr, hno, A8⟩ ⟨rfl, hx⟩
    have hi' : i < (ps.take 12).length := by rw [List.length_map] at hi; exact hi
    have ex : x = .str (ps.take 12)[i] := by
      rw [List.getElem?_map, List.getElem?_eq_getElem hi'] at hx
      exact (Option.some.inj hx).symm
    subst ex
    have ets : (ps.take 12).take (i + 1) = (ps.take 12).take i ++ [(ps.take 12)[i]] := by
      rw [List.take_add_one, List.getElem?_eq_getElem hi']; rfl
    refine ⟨rfl, ?_⟩
    walk_at "rd"
    refine ⟨d, _, rfl, DGet.k (k := Sum.inr (ps.take 12)[i]) (A8.get 1 rfl), rd_bl ?_⟩
    rw [valV_dk_some]
    refine rd_iteN (fun hnm => ?_) (fun hm => ?_)
    · walk_at "rd"
      have A9 := A8.set 4 rfl (.lst (fr.map V.str ++ [.str (ps.take 12)[i]]))
      refine ⟨_, A8.get 4 rfl, by rw [List.length_map]; have := hfr.length_le; rw [List.length_take] at this; have := List.length_take_le 12 ps; exact szn' (by omega), fr ++ [(ps.take 12)[i]], ?_, ?_, ?_⟩
      · rw [ets]; exact hfr.append (List.Sublist.refl _)
      · intro z hz
        rcases List.mem_append.mp hz with hz | hz
        · exact hno z hz
        · rw [List.mem_singleton] at hz; exact hz ▸ hnm
      · rw [List.map_append]; exact A9
    · exact ⟨fr, by rw [ets]; exact hfr.trans (List.sublist_append_left _ _), hno, A8⟩
  rintro H8 ⟨fr, hfr, hno, A8⟩
  have hfr : fr.Sublist ps := by rw [List.length_map, List.take_length] at hfr; exact hfr.trans (List.take_sublist _ _)
  clear A7 A6 A5 hD2
  have hfl : fr.length ≤ 14 := by have := hfr.length_le; rw [hp.len] at this; exact this
  have hml : mv.length ≤ 10 := by have := hmv.length_le; rw [List.length_map] at this; have := ht.len; omega
  walk_at "rd"
  -- some
  refine ⟨_, _, rfl, .inl (A8.lst 4 rfl), ?_⟩
  rw [List.length_map]
  walk_at "rd"
  refine rd_next A8 0 rfl hs1 (by decide) fun s2 r2 H9 hs2 h0 h1 A9 => ?_
  walk_at "rd"
  refine .inr ⟨_, rfl, ?_⟩
  refine rd_mul (Or.inl ⟨by omega, by omega⟩) ?_
  walk_at "rd"
  have hb : 0 ≤ (fr.length : Int) * (if decide (0 < r2) = true then 1 else 0) := by split <;> omega
  generalize (fr.length : Int) * (if decide (0 < r2) = true then 1 else 0) = hi at *
  refine rd_slL A9 (A9.lst 4 rfl) fun pS H10 A10 => ?_
  rw [cut_to _ _ hb, ← List.map_take] at A10
  refine ⟨D, pS, _, _, rfl, rfl, A10.get 2 rfl, A10.get 5 rfl, ?_, fun p6 hp6 => ?_⟩
  · rw [List.length_map, List.length_map, List.length_take]; exact szn (by omega)
  rw [← List.map_append]
  refine A10.u1 hp6 fun H11 A11 => ?_
  have hfs : (fr.take hi.toNat).Sublist ps := (List.take_sublist _ _).trans hfr
  have hsl : (mv ++ fr.take hi.toNat).length ≤ 24 := by rw [List.length_append]; have := hfs.length_le; rw [hp.len] at this; omega
  have hsnd : (mv ++ fr.take hi.toNat).Nodup := by
    rw [List.nodup_append]
    refine ⟨ht.nd.sublist hmv, hp.nd.sublist hfs, fun z hz y hy e => ?_⟩
    exact hno y (List.mem_of_mem_take hy) (e ▸ hmv.subset hz)
  have hsps : ∀ z ∈ mv ++ fr.take hi.toNat, z ∈ ps := fun z hz => by
    rcases List.mem_append.mp hz with hz | hz
    · exact ht.sub z (hmv.subset hz)
    · exact hfs.subset hz
  have hsk : ∀ z ∈ mv ++ fr.take hi.toNat, z ∈ td.map (·.1) → z ∈ mv := fun z hz hk => by
    rcases List.mem_append.mp hz with hz | hz
    · exact hz
    · exact absurd hk (hno z (List.mem_of_mem_take hz))
  have hsmv : mv.length ≤ (mv ++ fr.take hi.toNat).length := by rw [List.length_append]; omega
  generalize mv ++ fr.take hi.toNat = sm at *
  walk_at "rd"
  refine rd_turned A11 0 rfl hs2 (A11.lst 6 rfl) (fun z hz => nameOk_ok (hp.ok z (hsps z hz))) (by omega) fun s3 p7 sm' H12 hs3 hpm A12 _ => ?_
  walk_at "rd"
  refine ⟨szl, fun p8 hp8 => A12.u1 hp8 fun H13 A13 => ?_⟩
  walk_at "rd"
  refine rd_turned A13 0 rfl hs3 (A13.lst 2 rfl) (fun z hz => nameOk_ok (hp.ok z (ht.sub z (hmv.subset hz)))) (by omega) fun s4 p9 ys H14 hs4 hpy A14 _ => ?_
  clear A8 A9 A10 A11 A12 A13
  refine ⟨p9, rfl, ⟨_, A14.lst 9 rfl⟩, ?_⟩
  have hyl : ys.length = mv.length := hpy.length_eq
  have hsml : sm'.length = sm.length := hpm.length_eq
  refine forI (walk_list (xs := ys.map V.str)) (fun i σ H' => ∃ (te : List (Addr × (Str × Option Str))) (pop rest : List Str) (y7 y8 y9 : Option V),
      σ = [some (.ref S), some (.ref a), some (.ref d), some (.ref D), some (.ref D2), some (.ref p7), some (.ref p8), y7, y8, y9] ∧ te.map (·.2.1) = ys.take i ∧ te.map (·.2.2) = pop.map some ∧ rest ++ pop.reverse = sm' ∧
      At [S, d] H H' [(S, .lst [.int s4]), (d, .dK (dk td)), (p7, .lst (rest.map V.str)), (p8, .lst (te.map fun x => V.ref x.1)), (p9, .lst (ys.map V.str))] (te.map tP))
    ⟨[], [], sm', none, none, none, rfl, rfl, rfl, by simp, A14.sel (by simp) (by walk_at "sub")⟩ (fun i σ H' _ ⟨_, _, _, _, _, _, _, _, _, _, A⟩ => A.lst 4 rfl) ?_ ?_
  · rintro i x σ H15 H15' hi ⟨te, pop, rest, y7, y8, y9, rfl, h1, h2, h3, A15⟩ ⟨rfl, hx⟩
    have hi' : i < ys.length := by rw [List.length_map] at hi; exact hi
    have ex : x = .str ys[i] := by
      rw [List.getElem?_map, List.getElem?_eq_getElem hi'] at hx
      exact (Option.some.inj hx).symm
    subst ex
    have htl : te.length = i := by
      have := congrArg List.length h1
      rw [List.length_map, List.length_take] at this
      omega
    have hpl : pop.length = i := by
      have := congrArg List.length h2
      rw [List.length_map, List.length_map] at this
      omega
    have hrl : rest.length + pop.length = sm'.length := by rw [← h3, List.length_append, List.length_reverse]
    obtain ⟨r0, z, rfl⟩ : ∃ r0 z, rest = r0 ++ [z] := by
      rcases List.eq_nil_or_concat rest with e | ⟨r0, z, e⟩
      · subst e; rw [List.length_nil] at hrl; omega
      · exact ⟨r0, z, by rw [e, List.concat_eq_append]⟩
    walk_at "rd"
    refine ⟨.inl ⟨rfl, _, A15.lst 3 rfl⟩, ?_⟩
    walk_at "rd"
    refine ⟨.inl ⟨rfl, _, A15.lst 2 rfl⟩, ?_⟩
    refine ⟨p7, (r0 ++ [z]).map V.str, .str z, rfl, rfl, A15.get 2 rfl, ?_, ?_⟩
    · rw [List.map_append, List.length_append]
      show (r0.map V.str ++ [.str z])[(r0.map V.str).length + 1 - 1]? = _
      rw [Nat.add_sub_cancel, List.getElem?_append_right (Nat.le_refl _), Nat.sub_self]; rfl
    rw [List.map_append, show (r0.map V.str ++ [z].map V.str).dropLast = r0.map V.str from List.dropLast_concat]
    refine A15.s2 2 rfl fun H16 A16 => ?_
    walk_at "rd"
    refine ⟨szl, fun t ht => A16.t2 ht fun H17 A17 => ?_⟩
    walk_at "rd"
    refine ⟨p8, _, _, rfl, rfl, A17.get 3 rfl, by rw [List.length_map]; exact szn' (by omega), ?_⟩
    have A18 := A17.set 3 rfl (.lst ((te.map fun x => V.ref x.1) ++ [.ref t]))
    refine ⟨te ++ [(t, (ys[i], some z))], pop ++ [z], r0, _, _, _, rfl, ?_, ?_, ?_, ?_⟩
    · rw [List.map_append, h1, List.take_add_one, List.getElem?_eq_getElem hi']; rfl
    · rw [List.map_append, h2, List.map_append]; rfl
    · rw [List.reverse_append, ← h3, List.append_assoc]; rfl
    · rw [List.map_append, List.map_append]; exact A18
  · rintro σ H15 ⟨te, pop, rest, y7, y8, y9, rfl, h1, h2, h3, A15⟩
    rw [List.length_map, List.take_length] at h1
    have hpn : pop.Nodup := by
      have h : (rest ++ pop.reverse).Nodup := by rw [h3]; exact hpm.nodup_iff.mpr hsnd
      rw [List.nodup_append] at h
      exact (List.reverse_perm pop).nodup_iff.mp h.2.1
    have hps : ∀ z ∈ pop, z ∈ sm := fun z hz => hpm.mem_iff.mp (by rw [← h3]; exact List.mem_append_right _ (List.mem_reverse.mpr hz))
    have fm : te.filterMap (fun x => x.2.2) = pop := by
      rw [show te.filterMap (fun x => x.2.2) = (te.map (·.2.2)).filterMap id by rw [List.filterMap_map]; rfl, h2, List.filterMap_map]
      exact List.filterMap_some
    have hfst : (te.map (·.2)).map (·.1) = ys := by rw [List.map_map]; exact h1
    have hfm : (te.map (·.2)).filterMap (·.2) = pop := by rw [List.filterMap_map]; exact fm
    have htl : te.length = mv.length := by have := congrArg List.length h1; rw [List.length_map] at this; omega
    have hP : Pairs ps td (te.map (·.2)) := by
      refine ⟨by rw [hfst]; exact hpy.nodup_iff.mpr (ht.nd.sublist hmv), by rw [hfm]; exact hpn, ?_, ?_, by rw [List.length_map]; omega⟩
      · rw [hfst]; exact fun z hz => hmv.subset (hpy.mem_iff.mp hz)
      · rw [hfm, hfst]; exact fun z hz => ⟨hsps z (hps z hz), fun hk => hpy.mem_iff.mpr (hsk z (hps z hz) hk)⟩
    refine rd_cut (fun σ' H' => ∃ (s : Int) (te : List (Addr × (Str × Option Str))) (D3 : Addr) (y7 y8 y9 : Option V), Sd s ∧ Pairs ps td (te.map (·.2)) ∧
      σ' = [some (.ref S), some (.ref a), some (.ref d), some (.ref D), some (.ref D2), some (.ref p7), some (.ref D3), y7, y8, y9] ∧ At [S, d] H H' [(S, .lst [.int s]), (d, .dK (dk td)), (D3, .lst (te.map fun x => V.ref x.1))] (te.map tP)) ?_ ?_
    · walk_at "rd"
      refine rd_next A15 0 rfl hs4 (by decide) fun s5 r5 H16 hs5 _ _ A16 => ?_
      walk_at "rd"
      refine rd_ite (fun _ => ?_) (fun _ => ?_)
      · walk_at "rd"
        refine ⟨p8, rfl, ⟨_, A16.lst 3 rfl⟩, fun D4 hD4 => ?_⟩
        refine lc_it (walk_list (xs := te.map fun x => V.ref x.1)) (fun i H' => ∃ (s : Int) (te' : List (Addr × (Str × Option Str))), Sd s ∧ te'.map (·.2.1) = ys.take i ∧ (te'.filterMap (·.2.2)).Sublist (pop.take i) ∧
          At [S, d] H H' [(S, .lst [.int s]), (d, .dK (dk td)), (p8, .lst (te.map fun x => V.ref x.1)), (D4, .lst (te'.map fun x => V.ref x.1))] (te.map tP ++ te'.map tP))
          ⟨s5, [], hs5, rfl, List.nil_sublist _, ((A16.snoc hD4 (.lst [])).sel (by simp) (by walk_at "sub")).selT _ (by simp)⟩ (fun i H' _ ⟨_, _, _, _, _, A5⟩ => A5.lst 2 rfl) ?_ ?_
        · rintro i x H17 H17' hi ⟨s, te', hs, g1, g2, A17⟩ ⟨rfl, hx⟩
          have hi' : i < te.length := by rw [List.length_map] at hi; exact hi
          have ex : x = .ref te[i].1 := by
            rw [List.getElem?_map, List.getElem?_eq_getElem hi'] at hx
            exact (Option.some.inj hx).symm
          subst ex
          have hi2 : i < pop.length := by have := congrArg List.length h2; rw [List.length_map, List.length_map] at this; omega
          have hi3 : i < ys.length := by omega
          have e2 : te[i].2.2 = some pop[i] := by
            have := congrArg (·[i]?) h2
            simp only [List.getElem?_map, List.getElem?_eq_getElem hi', List.getElem?_eq_getElem hi2, Option.map_some] at this
            exact Option.some.inj this
          have e1 : te[i].2.1 = ys[i] := by
            have := congrArg (·[i]?) h1
            simp only [List.getElem?_map, List.getElem?_eq_getElem hi', List.getElem?_eq_getElem hi3, Option.map_some] at this
            exact Option.some.inj this
          have tm := A17.tm _ (List.mem_append_left _ (List.mem_map_of_mem (f := tP) (List.getElem_mem hi')))
          have htl' : te'.length = i := by have := congrArg List.length g1; rw [List.length_map, List.length_take] at this; omega
          refine ⟨te[i].1, _, rfl, .inl (.inl tm), rfl, _, _, rfl, _, _, rfl, rfl, rfl, ?_⟩
          walk_at "rd"
          refine ⟨szl, fun q1 hq1 => A17.u2 hq1 fun H18 A18 => ?_⟩
          walk_at "rd"
          refine rd_next A18 0 rfl hs (by decide) fun s6 r6 H19 hs6 _ _ A19 => ?_
          walk_at "rd"
          refine .inr ⟨_, rfl, ?_⟩
          have fin : ∀ o : Option Str, (o = none ∨ o = some pop[i]) → ∃ acc, H19 D4 = some (.lst acc) ∧ True := fun _ _ => ⟨_, A19.get 3 rfl, trivial⟩
          have hpt : pop.take (i + 1) = pop.take i ++ [pop[i]] := by rw [List.take_add_one, List.getElem?_eq_getElem hi2]; rfl
          have key : ∀ o : Option Str, (o = none ∨ o = some pop[i]) → ∀ t, H19 t = none → ∃ acc, (upd H19 t (.tup [.str te[i].2.1, ov o])) D4 = some (.lst acc) ∧ acc.length < sizeLine ∧
              ∃ (s : Int) (te' : List (Addr × (Str × Option Str))), Sd s ∧ te'.map (·.2.1) = ys.take (i + 1) ∧ (te'.filterMap (·.2.2)).Sublist (pop.take (i + 1)) ∧
          At [S, d] H (upd (upd H19 t (.tup [.str te[i].2.1, ov o])) D4 (.lst (acc ++ [.ref t]))) [(S, .lst [.int s]), (d, .dK (dk td)), (p8, .lst (te.map fun x => V.ref x.1)), (D4, .lst (te'.map fun x => V.ref x.1))] (te.map tP ++ te'.map tP) := by
            intro o ho t ht
            have A20 := A19.snocT ht (.tup [.str te[i].2.1, ov o])
            have A21 := A20.set 3 rfl (.lst ((te'.map fun x => V.ref x.1) ++ [.ref t]))
            refine ⟨_, A20.get 3 rfl, by rw [List.length_map]; exact szn' (by omega), s6, te' ++ [(t, (te[i].2.1, o))], hs6, ?_, ?_, ?_⟩
            · rw [List.map_append, g1, e1, List.take_add_one, List.getElem?_eq_getElem hi3]; rfl
            · rw [List.filterMap_append, hpt]
              rcases ho with rfl | rfl
              · rw [show List.filterMap (fun x : Addr × (Str × Option Str) => x.2.2) [(t, (te[i].2.1, none))] = [] from rfl, List.append_nil]
                exact g2.trans (List.sublist_append_left _ _)
              · exact g2.append (List.Sublist.refl _)
            · rw [List.map_append, List.map_append, ← List.append_assoc]
              exact A21.sel (by simp) (by walk_at "sub")
          by_cases hc : r6 = 0
          · rw [decide_eq_true (by rw [hc])]
            refine rd_ixL (A19.lst 4 rfl) (v := .non) (by rfl) ?_
            walk_at "rd"
            refine ⟨szl, fun t ht => ?_⟩
            exact key none (.inl rfl) t ht
          · rw [decide_eq_false (fun e => hc (V.int.inj e))]
            refine rd_ixL (A19.lst 4 rfl) (v := ov te[i].2.2) (by rfl) ?_
            walk_at "rd"
            refine ⟨szl, fun t ht => ?_⟩
            rw [e2]
            exact key (some pop[i]) (.inr rfl) t ht
        · rintro H17 ⟨s, te', hs, g1, g2, A17⟩
          have hpl : pop.length = te.length := by have := congrArg List.length h2; rw [List.length_map, List.length_map] at this; omega
          have hyl2 : ys.length = te.length := by have := congrArg List.length h1; rw [List.length_map] at this; omega
          rw [List.length_map, ← hyl2, List.take_length] at g1
          rw [List.length_map, ← hpl, List.take_length] at g2
          have hfst' : (te'.map (·.2)).map (·.1) = ys := by rw [List.map_map]; exact g1
          have hfm' : (te'.map (·.2)).filterMap (·.2) = te'.filterMap (·.2.2) := by rw [List.filterMap_map]; rfl
          have hP' : Pairs ps td (te'.map (·.2)) := by
            refine ⟨by rw [hfst']; exact hpy.nodup_iff.mpr (ht.nd.sublist hmv), by rw [hfm']; exact hpn.sublist g2, ?_, ?_, by have := congrArg List.length g1; rw [List.length_map] at this ⊢; omega⟩
            · rw [hfst']; exact fun z hz => hmv.subset (hpy.mem_iff.mp hz)
            · rw [hfm', hfst']; exact fun z hz => ⟨hsps z (hps z (g2.subset hz)), fun hk => hpy.mem_iff.mpr (hsk z (hps z (g2.subset hz)) hk)⟩
          exact ⟨s, te', D4, y7, y8, y9, hs, hP', rfl, (A17.sel (by simp) (by walk_at "sub")).selT _ (fun x hx => List.mem_append_right _ hx)⟩
      · walk_at "rd"
        exact ⟨s5, te, p8, y7, y8, y9, hs5, hP, rfl, A16.sel (by simp) (by walk_at "sub")⟩
    · rintro σ H16 ⟨s, te, D3, y7, y8, y9, hs, hP, rfl, A16⟩
      walk_at "rd"
      refine q s D3 te H16 hs hP (A16.new0 2 rfl ?_) (A16.get 2 rfl) (fun x hx => ⟨A16.tn x hx, A16.tm x hx⟩) (fun b o hb hn => ?_) (A16.get 0 rfl)
      · intro hm
        simp only [List.mem_cons, List.not_mem_nil, or_false] at hm
        rcases hm with e | e
        · exact A16.ne 2 0 rfl rfl (by decide) e
        · exact A16.ne 2 1 rfl rfl (by decide) e
      · by_cases e : b = d
        · subst e
          rw [hd] at hb
          cases hb
          exact A16.get 1 rfl
        · exact A16.base b o hb (by simp only [List.mem_cons, List.not_mem_nil, or_false, not_or] at hn ⊢; exact ⟨hn, e⟩)
end
end Nn

namespace Nn
open PySem PySem.Spec PyProof.Rows L2
local macro_rules | `(tactic| walk_at "rd1") => `(tactic| first
  | with_reducible refine' rd_c ?_
  | ((with_reducible refine' rd_var ?h ?_); (case h => rfl))
  | with_reducible refine' rd_op ?_
  | with_reducible refine' rd_I0 ?_
  | with_reducible refine' rd_seq ?_
  | ((with_reducible refine' rd_mod ?h ?_); (case h => decide))
  | ((with_reducible refine' rd_fdiv ?h ?_); (case h => exact ⟨by decide, by decide⟩))
  | ((with_reducible refine' rd_pow ?h ?_); (case h => exact ⟨by decide, by decide, by decide⟩))
  | ((with_reducible refine' rd_mul ?h ?_); (case h => first | exact Or.inl (by decide) | exact Or.inr (by decide)))
  | with_reducible refine' rd_set ?_
  | with_reducible refine' rd_asg ?_
  | with_reducible refine' rd_cons ?_
  | with_reducible refine' rd_nil ?_
  | with_reducible refine' rd_call ?_
  | with_reducible refine' rd_cb ?_
  | with_reducible refine' rd_if ?_
  | with_reducible refine' rd_test ?_
  | with_reducible refine' rd_B ?_
  | with_reducible refine' rd_bl ?_
  | ((with_reducible refine' rd_eq ?h ?_); (case h => rfl))
  | ((with_reducible refine' rd_ne ?h ?_); (case h => rfl))
  | with_reducible refine' rd_not ?_
  | with_reducible refine' rd_and ?_
  | with_reducible refine' rd_or ?_
  | with_reducible refine' rd_notV ?_
  | with_reducible refine' rd_chain ?_
  | with_reducible refine' rd_ret ?_
  | with_reducible refine' rd_drop ?_
  | with_reducible refine' rd_next' ?_
  | with_reducible refine' rd_lst ?_
  | with_reducible refine' rd_tup ?_
  | with_reducible refine' rd_lc ?_
  | with_reducible refine' rd_rng1 ?_
  | with_reducible refine' rd_istr ?_
  | with_reducible refine' rd_ilst ?_
  | with_reducible refine' rd_ienum ?_
  | with_reducible refine' rd_bm0 ?_
  | with_reducible refine' rd_bm ?_
  | with_reducible refine' rd_m1 ?_
  | with_reducible refine' rd_sl ?_
  | with_reducible refine' rd_po0 ?_
  | with_reducible refine' rd_po1 ?_
  | with_reducible refine' rd_in ?_
  | with_reducible refine' rd_sub ?_
  | with_reducible refine' rd_ifE ?_
  | with_reducible refine' rd_un ?_
  | with_reducible refine' rd_U ?_
  | with_reducible refine' rd_brk ?_
  | with_reducible refine' rd_cont ?_
  | with_reducible refine' rd_yes ?_
  | with_reducible refine' rd_T ?_
  | with_reducible refine' rd_F ?_
  | with_reducible refine' rd_nT ?_
  | with_reducible refine' rd_nF ?_
  | with_reducible refine' rd_dni ?_
  | with_reducible refine' rd_di ?_
  | with_reducible refine' rd_dget ?_
  | with_reducible refine' rd_dget1 ?_
  | with_reducible refine' rd_dget2 ?_
  | with_reducible refine' rd_dput ?_
  | with_reducible refine' rd_dnew ?_
  | with_reducible refine' rd_ikeys ?_
  | with_reducible refine' rd_gn ?_
  | with_reducible refine' rd_for ?_
  | with_reducible refine' rd_make ?_
  | with_reducible refine' rd_meth ?_
  | with_reducible refine' rd_fld ?_
  | with_reducible refine' rd_sfld ?_
  | with_reducible refine' rd_dc ?_
  | with_reducible refine' rd_items ?_
  | with_reducible refine' rd_sadd ?_
  | with_reducible refine' rd_ivals ?_)
local macro_rules | `(tactic| walk_at "sub") => `(tactic| repeat' (first | exact List.nil_sublist _ | exact List.Sublist.refl _ | apply List.Sublist.cons₂ | apply List.Sublist.cons))
local macro_rules | `(tactic| walk_at "rd") => `(tactic| repeat walk_at "rd1")

/-! ### plans: the data -/
def dko (prs : List (Str × Option Str)) : List (Key × V) := dk (prs.map fun e => (e.1, ov e.2))
theorem dko_keys (prs : List (Str × Option Str)) : (dko prs).map (·.1) = (prs.map (·.1)).map Sum.inr := by unfold dko; rw [dk_keys, List.map_map, List.map_map, List.map_map]; rfl
theorem dko_len (prs : List (Str × Option Str)) : (dko prs).length = prs.length := by unfold dko dk; rw [List.length_map, List.length_map]
theorem valV_dko (prs : List (Str × Option Str)) (k : Str) : valV (dko prs) (Sum.inr k) = (prs.find? fun e => decide (e.1 = k)).map fun e => ov e.2 := by
  induction prs with
  | nil => rfl
  | cons e r ih =>
    show valV ((Sum.inr e.1, ov e.2) :: dko r) (Sum.inr k) = _
    by_cases h : e.1 = k
    · rw [valV_pos (by rw [h]), List.find?_cons_of_pos (by simpa using h)]; rfl
    · rw [valV_neg (fun q => h (Sum.inr.inj q)), ih, List.find?_cons_of_neg (by simpa using h)]
theorem valV_dko_some (prs : List (Str × Option Str)) (k : Str) : (valV (dko prs) (Sum.inr k)).isSome = decide (k ∈ prs.map (·.1)) := by
  unfold dko
  rw [valV_dk_some, List.map_map]; rfl
theorem putK_dko {prs : List (Str × Option Str)} {z : Str} (o : Option Str) (h : z ∉ prs.map (·.1)) : putK (dko prs) (Sum.inr z) (ov o) = dko (prs ++ [(z, o)]) := by
  have hn : valV (dko prs) (Sum.inr z) = none := by
    have := valV_dko_some prs z
    rw [decide_eq_false h] at this
    exact Option.not_isSome_iff_eq_none.mp (by rw [this]; decide)
  rw [putK_new _ hn]
  unfold dko dk
  rw [List.map_append, List.map_append]; rfl
theorem find_mem {prs : List (Str × Option Str)} (nd : (prs.map (·.1)).Nodup) {e : Str × Option Str} (he : e ∈ prs) : prs.find? (fun x => decide (x.1 = e.1)) = some e := by
  induction prs with
  | nil => cases he
  | cons x r ih =>
    rw [List.map_cons, List.nodup_cons] at nd
    rcases List.mem_cons.mp he with h | h
    · subst h; exact List.find?_cons_of_pos (by simp)
    · rw [List.find?_cons_of_neg, ih nd.2 h]
      intro q
      exact nd.1 (of_decide_eq_true q ▸ List.mem_map_of_mem (f := Prod.fst) h)
/-- where a plan leads an old name (none: let go, or no old name) -/
def toOf (prs : List (Str × Option Str)) (z : Str) : Option Str := ((prs.find? fun e => decide (e.1 = z)).map (·.2)).getD none
theorem toOf_mem {prs : List (Str × Option Str)} (nd : (prs.map (·.1)).Nodup) {e : Str × Option Str} (he : e ∈ prs) : toOf prs e.1 = e.2 := by unfold toOf; rw [find_mem nd he]; rfl
structure Good (prs : List (Str × Option Str)) : Prop where
  old : ∀ e ∈ prs, nameOk e.1 = true
  new : ∀ e ∈ prs, ∀ z, e.2 = some z → nameOk z = true
  oldsNd : (prs.map (·.1)).Nodup
  newsNd : (prs.filterMap (·.2)).Nodup
  len : prs.length < 64
theorem sorted_perm {prs : List (Str × Option Str)} (nd : (prs.map (·.1)).Nodup) {ys : List Str} (h : ys.Perm (prs.map (·.1))) : (ys.map fun z => (z, toOf prs z)).Perm prs := by
  refine (h.map _).trans ?_
  rw [List.map_map]
  have e : prs.map ((fun z => (z, toOf prs z)) ∘ fun x => x.1) = prs := by
    conv => rhs; rw [← List.map_id prs]
    refine List.map_congr_left fun x hx => ?_
    show (x.1, toOf prs x.1) = x
    rw [toOf_mem nd hx]
  rw [e]
section
variable {P : Program} {w : World} {K : PySem.W.Frag} {mg : Str → Option Value} {base : Heap}
structure CCheck (P : Program) (w : World) (K : PySem.W.Frag) (mg : Str → Option Value) (base : Heap) : Prop where
  is_name : Cl P w K mg base 1 "is_name" (spIsName K)
def spCheck : Sp := fun vs H Q _ => ∃ z : Str, vs = [.str z] ∧ nameOk z = true ∧ ∀ H', Kp [] H H' → Q .non H'
theorem ok_check_name {f : Addr} {fd : FuncData} (F : Fun K "check_name" "check_name" scheck_name f fd) (C : CCheck P w K mg base) : FnOk P w K mg base CX0 2 f fd Pcheck_name spCheck := by
  refine F.ok sccheck_name (fun vs H Q E h => by obtain ⟨z, rfl, _⟩ := h; rfl) (fun cdv A outer s0 H vs Q E hr h => ?_)
  obtain ⟨z, rfl, hz, q⟩ := h
  refine ⟨_, pss_one (ps_if (pt_not (pt_val (pe_cl C.is_name hr (by omega) (by rfl) (pa_cons (pv 0) pa_nil)))) (pss_one ps_never)
   (pss_nil)), ?_⟩
  have A := At.nil H
  walk_at "rd"
  refine rd_name A (by have := nameOk_len hz; omega) fun H1 A1 => ?_
  rw [hz]
  walk_at "rd"
  exact q H1 A1.keep
structure CPlan (P : Program) (w : World) (K : PySem.W.Frag) (mg : Str → Option Value) (base : Heap) : Prop where
  check_name : Cl P w K mg base 2 "check_name" spCheck
structure PlanC (K : PySem.W.Frag) (C : Addr) : Prop where
  cl : Cls K C
  nl : NoAttr K C "_leads"
def spInit (C : Addr) : Sp := fun vs H Q _ => ∃ (pl a dx : Addr) (te : List (Addr × (Str × Option Str))), vs = [.ref pl, .ref a] ∧ H pl = some (.ins C dx []) ∧ H a = some (.lst (te.map fun x => V.ref x.1)) ∧ (∀ x ∈ te.map tP, H x.1 = some x.2) ∧ Good (te.map (·.2)) ∧
  ∀ H' d lv, lv.Perm (te.map (·.2)) → sortedS (lv.map (·.1)) = true → H d = none → Kp [pl] H H' → H' pl = some (.ins C dx [("_leads", .ref d)]) → H' d = some (.dK (dko lv)) → Q .non H'
theorem ok_Plan___init__ {f : Addr} {fd : FuncData} (F : Fun K "__init__" "Plan.__init__" sPlan___init__ f fd) (B : Blt mg) (C : CPlan P w K mg base) {Cp : Addr} (T : PlanC K Cp) : FnOk P w K mg base CX0 3 f fd PPlan___init__ (spInit Cp) := by
  refine F.ok scPlan___init__ (fun vs H Q E h => by obtain ⟨pl, a, dx, te, rfl, _⟩ := h; rfl) (fun cdv A outer s0 H vs Q E hr h => ?_)
  obtain ⟨pl, a, dx, te, rfl, hpl, ha, hte, hg, q⟩ := h
  refine ⟨_, pss_cons (ps_set (i := 2) scPlan___init__.nd rfl (Or.inr rfl) pe_dnewK)
  (pss_cons (ps_set (i := 3) scPlan___init__.nd rfl (Or.inl rfl) (pe_callTy0 cr_set0K (by rfl) B.set (by decide +kernel)))
  (pss_cons (ps_for PassesOwn.never rfl (pi_list (pv 1)) (pg_tup rfl (pgs_cons (pg_name (i := 4) scPlan___init__.nd rfl (Or.inl rfl)) (pgs_cons (pg_name (i := 5) scPlan___init__.nd rfl (Or.inl rfl)) pgs_nil)))
   (pss_cons (ps_expr (pe_cl C.check_name hr (by omega) (by rfl) (pa_cons (pv 4) pa_nil)))
  (Evl.pss_cut (ps_if (pt_cmpR op_notN (pv 5) pe_non (nomark _)) (pss_one (ps_expr (pe_cl C.check_name hr (by omega) (by rfl) (pa_cons (pv 5) pa_nil))))
   (pss_nil))
  (pss_cons (ps_if (pt_cmp (pc_din (hu_of hr) (pv 4) (pv 2))) (pss_one ps_never)
   (pss_nil))
  (pss_cons (ps_if (pt_cmpR or_inO (pv 5) (pv 3) (by rfl)) (pss_one ps_never)
   (pss_nil))
  (pss_cons (ps_dput (hu_of hr) (pv 2) (pv 4) (pv 5) rfl)
  (pss_one (ps_if (pt_cmpR op_notN (pv 5) pe_non (nomark _)) (pss_one (ps_expr (pe_saddK (pv 3) (pa_cons (pv 5) pa_nil))))
   (pss_nil)))))))))
  (pss_one (ps_fld (pv 0) (pe_dc (own := [("old", 4)]) rfl scPlan___init__.nd (pi_list (pe_callB (call_sortedD rfl) (by rfl) B.sorted (by decide +kernel) (pa_cons (pv 2) pa_nil))) (blkOk_by (N := NPlan___init__) (sc := defScope sPlan___init__) (by decide +kernel)) (fun _ _ _ _ _ => (pg_name (i := 4) scPlan___init__.nd rfl (Or.inl rfl))) (fun _ _ _ _ _ => pts_nil) (fun _ _ _ _ _ => (pv 4)) (fun _ _ _ _ _ => (pe_dget (hu_of hr) (pv 2) (pv 4) (fun _ _ => rfl)))) rfl)))), ?_⟩
  have A := At.one hpl
  walk_at "rd"
  refine fun d hd => A.u1 hd fun H1 A1 => ?_
  walk_at "rd"
  refine ⟨rfl, fun p hp => A1.u1 hp fun H2 A2 => ?_⟩
  have nea : a ∉ [pl] := fun hn => by rw [List.mem_singleton] at hn; subst hn; rw [hpl] at ha; cases ha
  have tup : ∀ {H'} {i : Nat} (hi : i < te.length), Kp [pl] H H' → H' te[i].1 = some (.tup [.str te[i].2.1, ov te[i].2.2]) := fun {H' i} hi k => by
    have h := hte _ (List.mem_map_of_mem (f := tP) (List.getElem_mem hi))
    refine k _ _ h fun hn => ?_
    rw [List.mem_singleton] at hn
    have h : H te[i].1 = some (.tup [.str te[i].2.1, ov te[i].2.2]) := h
    rw [hn, hpl] at h
    cases h
  walk_at "rd"
  refine ⟨a, rfl, ⟨_, .inl (.inl (A2.base _ _ ha nea))⟩, ?_⟩
  refine forI (walk_list (xs := te.map fun x => V.ref x.1)) (fun i σ H' => ∃ (y4 y5 : Option V) (S : Key → Bool) (n : Nat), σ = [some (.ref pl), some (.ref a), some (.ref d), some (.ref p), y4, y5] ∧ (∀ z, S (.inr z) = decide (z ∈ ((te.map (·.2)).take i).filterMap (·.2))) ∧ n ≤ i ∧
      At [pl] H H' [(pl, .ins Cp dx []), (d, .dK (dko ((te.map (·.2)).take i))), (p, SetK P w p S n)] [])
    ⟨none, none, _, 0, rfl, by intro z; rfl, Nat.le_refl _, A2⟩ (fun i σ H' _ ⟨_, _, _, _, _, _, _, A⟩ => .inl (.inl (A.base _ _ ha nea))) ?_ ?_
  · rintro i x σ H3 H3' hi ⟨y4, y5, S, n, rfl, hS, hn, A3⟩ ⟨rfl, hx⟩
    have hi' : i < te.length := by rw [List.length_map] at hi; exact hi
    have ex : x = .ref te[i].1 := by
      rw [List.getElem?_map, List.getElem?_eq_getElem hi'] at hx
      exact (Option.some.inj hx).symm
    subst ex
    have hz : nameOk te[i].2.1 = true := hg.old _ (List.mem_map_of_mem (f := fun x : Addr × (Str × Option Str) => x.2) (List.getElem_mem hi'))
    have hnew : ∀ z, te[i].2.2 = some z → nameOk z = true := hg.new _ (List.mem_map_of_mem (f := fun x : Addr × (Str × Option Str) => x.2) (List.getElem_mem hi'))
    have hi2 : i < (te.map (·.2)).length := by rw [List.length_map]; exact hi'
    have hat : (te.map (·.2))[i]? = some te[i].2 := by rw [List.getElem?_map, List.getElem?_eq_getElem hi']; rfl
    have htk : (te.map (·.2)).take (i + 1) = (te.map (·.2)).take i ++ [te[i].2] := by rw [List.take_add_one, hat]; rfl
    have hsplit : te.map (·.2) = (te.map (·.2)).take i ++ (te[i].2 :: (te.map (·.2)).drop (i + 1)) := by
      rw [show te[i].2 = (te.map (·.2))[i] from (List.getElem_map _).symm, List.getElem_cons_drop hi2, List.take_append_drop]
    have hfresh : te[i].2.1 ∉ ((te.map (·.2)).take i).map (·.1) := by
      have nd := hg.oldsNd
      rw [hsplit, List.map_append, List.nodup_append] at nd
      exact fun hm => nd.2.2 _ hm te[i].2.1 (by rw [List.map_cons]; exact List.mem_cons_self) rfl
    have hfreshN : ∀ z, te[i].2.2 = some z → z ∉ ((te.map (·.2)).take i).filterMap (·.2) := fun z e hm => by
      have nd := hg.newsNd
      rw [hsplit, List.filterMap_append, List.nodup_append] at nd
      exact nd.2.2 _ hm z (by rw [List.filterMap_cons_some e]; exact List.mem_cons_self) rfl
    have tu := tup hi' A3.keep
    generalize hold : te[i].2.1 = old at *
    generalize hnw : te[i].2.2 = new at *
    have hpr : te[i].2 = (old, new) := by rw [← hold, ← hnw]
    refine ⟨te[i].1, _, rfl, .inl (.inl tu), rfl, _, _, rfl, _, _, rfl, rfl, ?_⟩
    walk_at "rd"
    refine ⟨_, rfl, hz, fun H4 k4 => ?_⟩
    have A4 := A3.c0 k4
    walk_at "rd"
    refine rd_cut (fun σ' H' => σ' = [some (.ref pl), some (.ref a), some (.ref d), some (.ref p), some (.str old), some (ov new)] ∧ At [pl] H H' [(pl, .ins Cp dx []), (d, .dK (dko ((te.map (·.2)).take i))), (p, SetK P w p S n)] []) ?_ ?_
    · walk_at "rd"
      refine ⟨rfl, rd_bl ?_⟩
      cases new with
      | none =>
        refine rd_iteN (fun h => absurd rfl h) (fun _ => ?_)
        walk_at "rd"
        exact ⟨rfl, A4⟩
      | some z =>
        refine rd_iteN (fun _ => ?_) (fun h => by cases h)
        walk_at "rd"
        refine ⟨_, rfl, hnew z rfl, fun H5 k5 => ?_⟩
        exact ⟨rfl, A4.c0 k5⟩
    rintro σ H5 ⟨rfl, A5⟩
    walk_at "rd"
    refine ⟨_, _, rfl, DGet.k (k := Sum.inr old) (A5.get 1 rfl), rd_bl ?_⟩
    rw [valV_dko_some, decide_eq_false hfresh]
    walk_at "rd"
    have hin : inO S new = false := by
      cases new with
      | none => rfl
      | some z => show S (.inr z) = false; rw [hS, decide_eq_false (hfreshN z rfl)]
    refine ⟨new, _, S, n, rfl, rfl, A5.get 2 rfl, rd_bl ?_⟩
    rw [hin]
    walk_at "rd"
    refine ⟨_, _, rfl, DPut.k (k := Sum.inr old) (A5.get 1 rfl) (by rw [dko_len, List.length_take]; have := hg.len; rw [List.length_map] at *; exact szn' (by omega)), ?_⟩
    rw [putK_dko new hfresh, ← hpr, ← htk]
    refine A5.s1 1 rfl fun H6 A6 => ?_
    walk_at "rd"
    refine ⟨rfl, rd_bl ?_⟩
    cases new with
    | none =>
      refine rd_iteN (fun h => absurd rfl h) (fun _ => ?_)
      walk_at "rd"
      refine ⟨_, _, S, n, rfl, ?_, by omega, A6⟩
      intro z
      rw [hS, htk, List.filterMap_append, hpr, show List.filterMap (fun x : Str × Option Str => x.2) [(old, none)] = [] from rfl, List.append_nil]
    | some z =>
      refine rd_iteN (fun _ => ?_) (fun h => by cases h)
      walk_at "rd"
      refine ⟨⟨_, S, n, rfl, A6.get 2 rfl⟩, ?_⟩
      walk_at "rd"
      refine ⟨_, .inr z, S, n, rfl, rfl, A6.get 2 rfl, ?_, ?_⟩
      · have := hg.len; rw [List.length_map] at this; show n + 1 < scanBound; unfold scanBound; omega
      have A7 := A6.set 2 rfl (SetK P w p (fun j => S j || decide (j = .inr z)) (if S (.inr z) = true then n else n + 1))
      refine ⟨_, _, _, _, rfl, ?_, ?_, A7⟩
      · intro y
        rw [hS, htk, List.filterMap_append, hpr, show List.filterMap (fun x : Str × Option Str => x.2) [(old, some z)] = [z] from rfl, ← Bool.decide_or]
        refine decide_eq_decide.mpr ?_
        rw [List.mem_append, List.mem_singleton]
        exact ⟨fun h => h.imp_right Sum.inr.inj, fun h => h.imp_right (congrArg _)⟩
      · split <;> omega
  · rintro σ H3 ⟨y4, y5, S, n, rfl, hS, hn, A3⟩
    rw [List.length_map, ← List.length_map (f := fun x : Addr × (Str × Option Str) => x.2), List.take_length] at A3
    walk_at "rd"
    refine ⟨d, _, (te.map (·.2)).map (·.1), rfl, .inl (A3.get 1 rfl), dko_keys _, by rw [List.length_map]; exact hg.len, fun ys p2 hys hso hp2 => ?_⟩
    have A4 := A3.snoc hp2 (.lst (ys.map V.str))
    revert A4
    generalize upd H3 p2 (.lst (ys.map V.str)) = H4
    intro A4
    refine ⟨p2, rfl, ⟨_, A4.lst 3 rfl⟩, fun D hD => ?_⟩
    have nd := hg.oldsNd
    have hperm := sorted_perm nd hys
    have ynd : ys.Nodup := hys.nodup_iff.mpr nd
    refine dc_it (walk_list (xs := ys.map V.str)) (fun i H' => At [pl] H H' [(pl, .ins Cp dx []), (d, .dK (dko (te.map (·.2)))), (p, SetK P w p S n), (p2, .lst (ys.map V.str)), (D, .dK (dko ((ys.take i).map fun z => (z, toOf (te.map (·.2)) z))))] [])
      (A4.snoc hD _) (fun i H' _ A => A.lst 3 rfl) ?_ ?_
    · rintro i x H5 H5' hi A5 ⟨rfl, hx⟩
      have hi' : i < ys.length := by rw [List.length_map] at hi; exact hi
      have ex : x = .str ys[i] := by
        rw [List.getElem?_map, List.getElem?_eq_getElem hi'] at hx
        exact (Option.some.inj hx).symm
      subst ex
      have htk : ys.take (i + 1) = ys.take i ++ [ys[i]] := by rw [List.take_add_one, List.getElem?_eq_getElem hi']; rfl
      have hsplit : ys = ys.take i ++ (ys[i] :: ys.drop (i + 1)) := by rw [List.getElem_cons_drop hi', List.take_append_drop]
      have hfr : ys[i] ∉ ((ys.take i).map fun z => (z, toOf (te.map (·.2)) z)).map (·.1) := by
        rw [List.map_map, show ((fun x : Str × Option Str => x.1) ∘ fun z => (z, toOf (te.map (·.2)) z)) = id from rfl, List.map_id]
        have h := ynd
        rw [hsplit, List.nodup_append] at h
        exact fun hm => h.2.2 _ hm ys[i] List.mem_cons_self rfl
      have hm : ys[i] ∈ (te.map (·.2)).map (·.1) := hys.mem_iff.mp (List.getElem_mem hi')
      obtain ⟨e, he, ee⟩ := List.mem_map.mp hm
      have hv : valV (dko (te.map (·.2))) (Sum.inr ys[i]) = some (ov (toOf (te.map (·.2)) ys[i])) := by
        rw [valV_dko, ← ee, find_mem nd he, toOf_mem nd he]; rfl
      refine ⟨rfl, ?_⟩
      walk_at "rd"
      refine ⟨d, ov (toOf (te.map (·.2)) ys[i]), rfl, ?_, ?_⟩
      · rw [← hv]; exact DGet.k (k := Sum.inr ys[i]) (A5.get 1 rfl)
      refine ⟨_, .inr ys[i], rfl, A5.get 4 rfl, ?_, ?_⟩
      · rw [dko_len, List.length_map, List.length_take]; have := hys.length_eq; rw [List.length_map] at this; have := hg.len; exact szn' (by omega)
      rw [putK_dko _ hfr]
      rw [htk, List.map_append]
      exact A5.set 4 rfl _
    · intro H5 A5
      rw [List.length_map, List.take_length] at A5
      walk_at "rd"
      refine ⟨pl, Cp, dx, [], rfl, A5.get 0 rfl, T.cl, T.nl, by decide, ?_⟩
      have A6 := A5.set 0 rfl (.ins Cp dx [("_leads", .ref D)])
      refine q _ D _ hperm ?_ (A6.new0 4 rfl (by rw [List.mem_singleton]; exact A6.ne 4 0 rfl rfl (by decide))) A6.keep (A6.get 0 rfl) (A6.get 4 rfl)
      rw [List.map_map, show ((fun x : Str × Option Str => x.1) ∘ fun z => (z, toOf (te.map (·.2)) z)) = id from rfl, List.map_id]
      exact hso
end
end Nn

namespace Nn
open PySem PySem.Spec PyProof.Rows L2
local macro_rules | `(tactic| walk_at "rd1") => `(tactic| first
  | with_reducible refine' rd_c ?_
  | ((with_reducible refine' rd_var ?h ?_); (case h => rfl))
  | with_reducible refine' rd_op ?_
  | with_reducible refine' rd_I0 ?_
  | with_reducible refine' rd_seq ?_
  | ((with_reducible refine' rd_mod ?h ?_); (case h => decide))
  | ((with_reducible refine' rd_fdiv ?h ?_); (case h => exact ⟨by decide, by decide⟩))
  | ((with_reducible refine' rd_pow ?h ?_); (case h => exact ⟨by decide, by decide, by decide⟩))
  | ((with_reducible refine' rd_mul ?h ?_); (case h => first | exact Or.inl (by decide) | exact Or.inr (by decide)))
  | with_reducible refine' rd_set ?_
  | with_reducible refine' rd_asg ?_
  | with_reducible refine' rd_cons ?_
  | with_reducible refine' rd_nil ?_
  | with_reducible refine' rd_call ?_
  | with_reducible refine' rd_cb ?_
  | with_reducible refine' rd_if ?_
  | with_reducible refine' rd_test ?_
  | with_reducible refine' rd_B ?_
  | with_reducible refine' rd_bl ?_
  | ((with_reducible refine' rd_eq ?h ?_); (case h => rfl))
  | ((with_reducible refine' rd_ne ?h ?_); (case h => rfl))
  | with_reducible refine' rd_not ?_
  | with_reducible refine' rd_and ?_
  | with_reducible refine' rd_or ?_
  | with_reducible refine' rd_notV ?_
  | with_reducible refine' rd_chain ?_
  | with_reducible refine' rd_ret ?_
  | with_reducible refine' rd_drop ?_
  | with_reducible refine' rd_next' ?_
  | with_reducible refine' rd_lst ?_
  | with_reducible refine' rd_tup ?_
  | with_reducible refine' rd_lc ?_
  | with_reducible refine' rd_rng1 ?_
  | with_reducible refine' rd_istr ?_
  | with_reducible refine' rd_ilst ?_
  | with_reducible refine' rd_ienum ?_
  | with_reducible refine' rd_bm0 ?_
  | with_reducible refine' rd_bm ?_
  | with_reducible refine' rd_m1 ?_
  | with_reducible refine' rd_sl ?_
  | with_reducible refine' rd_po0 ?_
  | with_reducible refine' rd_po1 ?_
  | with_reducible refine' rd_in ?_
  | with_reducible refine' rd_sub ?_
  | with_reducible refine' rd_ifE ?_
  | with_reducible refine' rd_un ?_
  | with_reducible refine' rd_U ?_
  | with_reducible refine' rd_brk ?_
  | with_reducible refine' rd_cont ?_
  | with_reducible refine' rd_yes ?_
  | with_reducible refine' rd_T ?_
  | with_reducible refine' rd_F ?_
  | with_reducible refine' rd_nT ?_
  | with_reducible refine' rd_nF ?_
  | with_reducible refine' rd_dni ?_
  | with_reducible refine' rd_di ?_
  | with_reducible refine' rd_dget ?_
  | with_reducible refine' rd_dget1 ?_
  | with_reducible refine' rd_dget2 ?_
  | with_reducible refine' rd_dput ?_
  | with_reducible refine' rd_dnew ?_
  | with_reducible refine' rd_ikeys ?_
  | with_reducible refine' rd_gn ?_
  | with_reducible refine' rd_for ?_
  | with_reducible refine' rd_make ?_
  | with_reducible refine' rd_meth ?_
  | with_reducible refine' rd_fld ?_
  | with_reducible refine' rd_sfld ?_
  | with_reducible refine' rd_dc ?_
  | with_reducible refine' rd_items ?_
  | with_reducible refine' rd_sadd ?_
  | with_reducible refine' rd_ivals ?_)
local macro_rules | `(tactic| walk_at "sub") => `(tactic| repeat' (first | exact List.nil_sublist _ | exact List.Sublist.refl _ | apply List.Sublist.cons₂ | apply List.Sublist.cons))
local macro_rules | `(tactic| walk_at "rd") => `(tactic| repeat walk_at "rd1")

section
variable {P : Program} {w : World} {K : PySem.W.Frag} {mg : Str → Option Value} {base : Heap}
/-- a plan stands at pl -/
def PlanAt (C : Addr) (H : Hp) (pl : Addr) (lv : List (Str × Option Str)) : Prop := ∃ dx d, H pl = some (.ins C dx [("_leads", .ref d)]) ∧ H d = some (.dK (dko lv))
theorem zip_fst {α β : Type} : ∀ {a : List α} {b : List β}, a.length = b.length → (a.zip b).map (·.1) = a
  | [], [], _ => rfl
  | x :: a, y :: b, h => by rw [List.zip_cons_cons, List.map_cons, zip_fst (Nat.succ.inj h)]
  | [], _ :: _, h => by cases h
  | _ :: _, [], h => by cases h
theorem zip_snd {α β : Type} : ∀ {a : List α} {b : List β}, a.length = b.length → (a.zip b).map (·.2) = b
  | [], [], _ => rfl
  | x :: a, y :: b, h => by rw [List.zip_cons_cons, List.map_cons, zip_snd (Nat.succ.inj h)]
  | [], _ :: _, h => by cases h
  | _ :: _, [], h => by cases h
theorem paired_zip {β γ δ : Type} {R : β → γ → Prop} {g : δ → γ} : ∀ {a : List β} {b : List δ}, Paired R a (b.map g) → a.length = b.length ∧ ∀ x ∈ a.zip b, R x.1 (g x.2)
  | [], [], _ => ⟨rfl, by simp⟩
  | x :: a, y :: b, h => by
    cases h with
    | cons h t =>
      obtain ⟨e, f⟩ := paired_zip t
      refine ⟨by rw [List.length_cons, List.length_cons, e], fun z hz => ?_⟩
      rw [List.zip_cons_cons] at hz
      rcases List.mem_cons.mp hz with rfl | hz
      · exact h
      · exact f z hz
  | [], _ :: _, h => by cases h
  | _ :: _, [], h => by cases h
def spPairsM (C : Addr) : Sp := fun vs H Q _ => ∃ (pl : Addr) (lv : List (Str × Option Str)), vs = [.ref pl] ∧ PlanAt C H pl lv ∧
  ∀ H' p (te : List (Addr × (Str × Option Str))), te.map (·.2) = lv → H p = none → H' p = some (.lst (te.map fun x => V.ref x.1)) → (∀ x ∈ te.map tP, H x.1 = none ∧ H' x.1 = some x.2) → Kp [] H H' → Q (.ref p) H'
theorem ok_Plan_pairs {f : Addr} {fd : FuncData} (F : Fun K "pairs" "Plan.pairs" sPlan_pairs f fd) (B : Blt mg) {Cp : Addr} (T : PlanC K Cp) : FnOk P w K mg base CX0 1 f fd PPlan_pairs (spPairsM Cp) := by
  refine F.ok scPlan_pairs (fun vs H Q E h => by obtain ⟨pl, lv, rfl, _⟩ := h; rfl) (fun cdv A outer s0 H vs Q E hr h => ?_)
  obtain ⟨pl, lv, rfl, ⟨dx, d, hpl, hd⟩, q⟩ := h
  refine ⟨_, pss_one (ps_ret (LiI.pe_listItems rfl (pe_fld (pv 0) rfl) (by rfl) B.list (by decide +kernel))), ?_⟩
  walk_at "rd"
  refine ⟨pl, Cp, dx, _, _, rfl, hpl, T.cl, T.nl, rfl, ?_⟩
  refine ⟨d, dko lv, rfl, hd, fun H' p ts k hp hts hpt hp' hpa => ?_⟩
  have hpa : Paired (fun (t : Addr) (q : Key × V) => H' t = some (.tup [kV q.1, q.2])) ts (lv.map fun e => ((Sum.inr e.1 : Key), ov e.2)) := by
    rw [show (lv.map fun e => ((Sum.inr e.1 : Key), ov e.2)) = dko lv by unfold dko dk; rw [List.map_map]; rfl]
    exact hpa
  obtain ⟨hl, hz⟩ := paired_zip hpa
  refine q H' p (ts.zip lv) (zip_snd hl) hp ?_ ?_ (Kp.of k)
  · rw [hp', show ((ts.zip lv).map fun x => V.ref x.1) = ((ts.zip lv).map (·.1)).map V.ref by rw [List.map_map]; rfl, zip_fst hl]
  · intro x hx
    obtain ⟨y, hy, rfl⟩ := List.mem_map.mp hx
    refine ⟨hts _ ?_, hz y hy⟩
    exact (List.of_mem_zip hy).1
def spOldsM (C : Addr) : Sp := fun vs H Q _ => ∃ (pl : Addr) (lv : List (Str × Option Str)), vs = [.ref pl] ∧ PlanAt C H pl lv ∧
  ∀ H' p, H p = none → H' p = some (.lst ((lv.map (·.1)).map V.str)) → Kp [] H H' → Q (.ref p) H'
def spNewsM (C : Addr) : Sp := fun vs H Q _ => ∃ (pl : Addr) (lv : List (Str × Option Str)), vs = [.ref pl] ∧ PlanAt C H pl lv ∧ lv.length < 64 ∧
  ∀ H' p (ys : List Str), ys.Perm (lv.filterMap (·.2)) → sortedS ys = true → H p = none → H' p = some (.lst (ys.map V.str)) → Kp [] H H' → Q (.ref p) H'
/-- where a plan leads a name -/
def toV (lv : List (Str × Option Str)) (z : Str) : V := match lv.find? fun e => decide (e.1 = z) with
  | none => .str z
  | some e => ov e.2
def spToM (C : Addr) : Sp := fun vs H Q _ => ∃ (pl : Addr) (lv : List (Str × Option Str)) (z : Str), vs = [.ref pl, .str z] ∧ PlanAt C H pl lv ∧ ∀ H', Kp [] H H' → Q (toV lv z) H'
theorem ok_Plan_to {f : Addr} {fd : FuncData} (F : Fun K "to" "Plan.to" sPlan_to f fd) (B : Blt mg) {Cp : Addr} (T : PlanC K Cp) : FnOk P w K mg base CX0 1 f fd PPlan_to (spToM Cp) := by
  refine F.ok scPlan_to (fun vs H Q E h => by obtain ⟨pl, lv, z, rfl, _⟩ := h; rfl) (fun cdv A outer s0 H vs Q E hr h => ?_)
  obtain ⟨pl, lv, z, rfl, ⟨dx, d, hpl, hd⟩, q⟩ := h
  refine ⟨_, pss_one (ps_ret (pe_dget2 (hu_of hr) (pe_fld (pv 0) rfl) (pv 1) (pv 1) ⟨by rfl, by rfl, by rfl, by rfl⟩)), ?_⟩
  walk_at "rd"
  refine ⟨pl, Cp, dx, _, _, rfl, hpl, T.cl, T.nl, rfl, ?_⟩
  refine ⟨d, rfl, .inl ⟨_, .inl hd⟩, ?_⟩
  walk_at "rd"
  refine ⟨_, DGet.k (k := Sum.inr z) hd, ?_⟩
  have e : (valV (dko lv) (Sum.inr z)).getD (.str z) = toV lv z := by
    rw [valV_dko]
    unfold toV
    cases lv.find? (fun e => decide (e.1 = z)) <;> rfl
  rw [e]
  exact q H (Kp.refl H)
end
end Nn

namespace Nn
open PySem PySem.Spec PyProof.Rows L2
local macro_rules | `(tactic| walk_at "rd1") => `(tactic| first
  | with_reducible refine' rd_c ?_
  | ((with_reducible refine' rd_var ?h ?_); (case h => rfl))
  | with_reducible refine' rd_op ?_
  | with_reducible refine' rd_I0 ?_
  | with_reducible refine' rd_seq ?_
  | ((with_reducible refine' rd_mod ?h ?_); (case h => decide))
  | ((with_reducible refine' rd_fdiv ?h ?_); (case h => exact ⟨by decide, by decide⟩))
  | ((with_reducible refine' rd_pow ?h ?_); (case h => exact ⟨by decide, by decide, by decide⟩))
  | ((with_reducible refine' rd_mul ?h ?_); (case h => first | exact Or.inl (by decide) | exact Or.inr (by decide)))
  | with_reducible refine' rd_set ?_
  | with_reducible refine' rd_asg ?_
  | with_reducible refine' rd_cons ?_
  | with_reducible refine' rd_nil ?_
  | with_reducible refine' rd_call ?_
  | with_reducible refine' rd_cb ?_
  | with_reducible refine' rd_if ?_
  | with_reducible refine' rd_test ?_
  | with_reducible refine' rd_B ?_
  | with_reducible refine' rd_bl ?_
  | ((with_reducible refine' rd_eq ?h ?_); (case h => rfl))
  | ((with_reducible refine' rd_ne ?h ?_); (case h => rfl))
  | with_reducible refine' rd_not ?_
  | with_reducible refine' rd_and ?_
  | with_reducible refine' rd_or ?_
  | with_reducible refine' rd_notV ?_
  | with_reducible refine' rd_chain ?_
  | with_reducible refine' rd_ret ?_
  | with_reducible refine' rd_drop ?_
  | with_reducible refine' rd_next' ?_
  | with_reducible refine' rd_lst ?_
  | with_reducible refine' rd_tup ?_
  | with_reducible refine' rd_lc ?_
  | with_reducible refine' rd_rng1 ?_
  | with_reducible refine' rd_istr ?_
  | with_reducible refine' rd_ilst ?_
  | with_reducible refine' rd_ienum ?_
  | with_reducible refine' rd_bm0 ?_
  | with_reducible refine' rd_bm ?_
  | with_reducible refine' rd_m1 ?_
  | with_reducible refine' rd_sl ?_
  | with_reducible refine' rd_po0 ?_
  | with_reducible refine' rd_po1 ?_
  | with_reducible refine' rd_in ?_
  | with_reducible refine' rd_sub ?_
  | with_reducible refine' rd_ifE ?_
  | with_reducible refine' rd_un ?_
  | with_reducible refine' rd_U ?_
  | with_reducible refine' rd_brk ?_
  | with_reducible refine' rd_cont ?_
  | with_reducible refine' rd_yes ?_
  | with_reducible refine' rd_T ?_
  | with_reducible refine' rd_F ?_
  | with_reducible refine' rd_nT ?_
  | with_reducible refine' rd_nF ?_
  | with_reducible refine' rd_dni ?_
  | with_reducible refine' rd_di ?_
  | with_reducible refine' rd_dget ?_
  | with_reducible refine' rd_dget1 ?_
  | with_reducible refine' rd_dget2 ?_
  | with_reducible refine' rd_dput ?_
  | with_reducible refine' rd_dnew ?_
  | with_reducible refine' rd_ikeys ?_
  | with_reducible refine' rd_gn ?_
  | with_reducible refine' rd_for ?_
  | with_reducible refine' rd_make ?_
  | with_reducible refine' rd_meth ?_
  | with_reducible refine' rd_fld ?_
  | with_reducible refine' rd_sfld ?_
  | with_reducible refine' rd_dc ?_
  | with_reducible refine' rd_items ?_
  | with_reducible refine' rd_sadd ?_
  | with_reducible refine' rd_ivals ?_)
local macro_rules | `(tactic| walk_at "sub") => `(tactic| repeat' (first | exact List.nil_sublist _ | exact List.Sublist.refl _ | apply List.Sublist.cons₂ | apply List.Sublist.cons))
local macro_rules | `(tactic| walk_at "rd") => `(tactic| repeat walk_at "rd1")

section
variable {P : Program} {w : World} {K : PySem.W.Frag} {mg : Str → Option Value} {base : Heap}
/-! ### alike: the same data -/
theorem rd_isi {K : PySem.W.Frag} {x : V} {S T : String} {b : Bool} {H : Hp} {Q : VK} (h : TyX K H x (.type S)) (e : kitB S T = some b) (q : Q (.bl b) H) : rIsi K [x, .ty T] H Q := ⟨x, .ty T, _, .type T, b, rfl, .ty _, h, kit_ty e, q⟩
theorem rd_isiT2 {K : PySem.W.Frag} {x : V} {S T1 T2 : String} {b b1 b2 : Bool} {tp : Addr} {H : Hp} {Q : VK} (ht : H tp = some (.tup [.ty T1, .ty T2])) (h : TyX K H x (.type S)) (e1 : kitB S T1 = some b1) (e2 : kitB S T2 = some b2) (e : b = (b1 || b2)) (q : Q (.bl b) H) : rIsiT K [x, .ref tp] H Q := by
  refine ⟨x, tp, _, _, [.type T1, .type T2], b, rfl, ht, .cons (.ty _) (.cons (.ty _) .nil), h, kitAny_cons (b := b1) (kit_ty e1) (fun h1 => ?_) (fun h1 => by rw [e, h1]; rfl), q⟩
  subst h1
  refine kitAny_cons (b := b2) (kit_ty e2) (fun h2 => ?_) (fun h2 => by rw [e, h2]; rfl)
  subst h2; subst e
  exact kitAny_nil
theorem rd_izA {K : PySem.W.Frag} {tr : TA} {σ : L2.St} {H : Hp} {R : It → Hp → Prop} (k : tr σ H fun vs H1 => ∃ a b xs ys, vs = [.ref a, .ref b] ∧ ((SqL K H1 a xs ∧ SqL K H1 b ys ∧ R (Itz K a b) H1) ∨ (SqT K H1 a xs ∧ SqT K H1 b ys ∧ R (RZ.ItzT K a b) H1))) : RZ.iZipA K tr σ H R := k
theorem all_true (n : Nat) : (List.replicate n true).all id = true := by induction n with
  | zero => rfl
  | succ n ih => rw [List.replicate_succ, List.all_cons, ih]; rfl
def spAlike (K : PySem.W.Frag) (n : Nat) : Sp := fun vs H Q _ => ∃ (x y : V) (d : PyData), vs = [x, y] ∧ Dp K H x d ∧ Dp K H y d ∧ Sm n d ∧ ∀ H', Kp [] H H' → Q (.bl true) H'
structure CAlike (P : Program) (w : World) (K : PySem.W.Frag) (mg : Str → Option Value) (base : Heap) (k : Nat) (sp : Sp) : Prop where
  _law_alike : Cl P w K mg base k "_law_alike" sp
/-- the part for a list or a tuple, for scalars: what is needed of the def below -/
theorem ok__law_alike {f : Addr} {fd : FuncData} (F : Fun K "_law_alike" "_law_alike" s_law_alike f fd) (B : Blt mg) {k n : Nat} {sp : Sp} (C : CAlike P w K mg base k sp) (hsp : ∀ m, n = m + 1 → sp = spAlike K m) : FnOk P w K mg base CX0 (k + 1) f fd P_law_alike (spAlike K n) := by
  refine F.ok sc_law_alike (fun vs H Q E h => by obtain ⟨x, y, d, rfl, _⟩ := h; rfl) (fun cdv A outer s0 H vs Q E hr h => ?_)
  obtain ⟨x, y, d, rfl, hx, hy, hs, q⟩ := h
  refine ⟨_, pss_cons (ps_if (pt_val (pe_callB call_isi (by rfl) B.isinstance (by decide +kernel) (pa_cons (pv 1) (pa_cons (pe_ty (T := "dict") (by rfl) B.dict (by decide +kernel)) pa_nil)))) (pss_cons (ps_if (PW.pt (pw_or (pt_not (pt_val (pe_callB call_isi (by rfl) B.isinstance (by decide +kernel) (pa_cons (pv 0) (pa_cons (pe_ty (T := "dict") (by rfl) B.dict (by decide +kernel)) pa_nil))))) (pw_or1 (pt_cmpR (op_neD hr.units) (pe_callTy call_list_of (by rfl) B.list (by decide +kernel) (pa_cons (pv 0) pa_nil)) (pe_callTy call_list_of (by rfl) B.list (by decide +kernel) (pa_cons (pv 1) pa_nil)) (nomark _))))) (pss_one (ps_ret pe_bl))
   (pss_nil))
  (pss_one (ps_ret (pe_callB (cr_all rfl) (by rfl) B.all (by decide +kernel) (pa_cons (pe_lc (own := [("_law_key", 2)]) rfl sc_law_alike.nd (pi_list (pv 1)) (blkOk_by (N := N_law_alike) (sc := defScope s_law_alike) (by decide +kernel)) (fun _ _ _ _ _ => (pg_name (i := 2) sc_law_alike.nd rfl (Or.inl rfl))) (fun _ _ _ _ _ => pts_nil) (fun _ _ _ _ _ => (pe_cl C._law_alike hr (by omega) (by rfl) (pa_cons (pe_ix (ix_list' (K := K) rfl) (pv 0) (pv 2) (fun _ _ => rfl)) (pa_cons (pe_ix (ix_list' (K := K) rfl) (pv 1) (pv 2) (fun _ _ => rfl)) pa_nil))))) pa_nil)))))
   (pss_nil))
  (pss_cons (ps_if (pt_val (pe_callB call_isiT (by rfl) B.isinstance (by decide +kernel) (pa_cons (pv 1) (pa_cons (pe_tup (pa_cons (pe_ty (T := "tuple") (by rfl) B.tuple (by decide +kernel)) (pa_cons (pe_ty (T := "list") (by rfl) B.list (by decide +kernel)) pa_nil))) pa_nil)))) (pss_cons (ps_if (PW.pt (pw_or (pt_cmpR op_ne (pe_callB call_isi (by rfl) B.isinstance (by decide +kernel) (pa_cons (pv 0) (pa_cons (pe_ty (T := "tuple") (by rfl) B.tuple (by decide +kernel)) pa_nil))) (pe_callB call_isi (by rfl) B.isinstance (by decide +kernel) (pa_cons (pv 1) (pa_cons (pe_ty (T := "tuple") (by rfl) B.tuple (by decide +kernel)) pa_nil))) (nomark _)) (pw_or1 (pt_cmpR op_ne (pe_callB call_isi (by rfl) B.isinstance (by decide +kernel) (pa_cons (pv 0) (pa_cons (pe_ty (T := "list") (by rfl) B.list (by decide +kernel)) pa_nil))) (pe_callB call_isi (by rfl) B.isinstance (by decide +kernel) (pa_cons (pv 1) (pa_cons (pe_ty (T := "list") (by rfl) B.list (by decide +kernel)) pa_nil))) (nomark _))))) (pss_one (ps_ret pe_bl))
   (pss_nil))
  (pss_one (ps_ret (pe_and (pe_cmpR op_eq (pe_callB call_len_seq (by rfl) B.len (by decide +kernel) (pa_cons (pv 0) pa_nil)) (pe_callB call_len_seq (by rfl) B.len (by decide +kernel) (pa_cons (pv 1) pa_nil)) (nomark _)) (pe_one (pe_callB (cr_all rfl) (by rfl) B.all (by decide +kernel) (pa_cons (pe_lc (own := [("_law_one", 3), ("_law_other", 4)]) rfl sc_law_alike.nd (RZ.pi_zipA (by rfl) B.zip (pa_cons (pv 0) (pa_cons (pv 1) pa_nil))) (blkOk_by (N := N_law_alike) (sc := defScope s_law_alike) (by decide +kernel)) (fun _ _ _ _ _ => (pg_tup' (n := 2) (K := K) rfl rfl (pgs_cons (pg_name (i := 3) sc_law_alike.nd rfl (Or.inl rfl)) (pgs_cons (pg_name (i := 4) sc_law_alike.nd rfl (Or.inl rfl)) pgs_nil)))) (fun _ _ _ _ _ => pts_nil) (fun _ _ _ _ _ => (pe_cl C._law_alike hr (by omega) (by rfl) (pa_cons (pv 3) (pa_cons (pv 4) pa_nil))))) pa_nil)))))))
   (pss_nil))
  (pss_cons (ps_if (pt_cmpR op_isN (pv 1) pe_non (nomark _)) (pss_one (ps_ret (pe_cmpR op_isN (pv 0) pe_non (nomark _))))
   (pss_nil))
  (pss_cons (ps_if (PW.pt (pw_or (pt_cmpR op_ne (pe_callB call_isi (by rfl) B.isinstance (by decide +kernel) (pa_cons (pv 0) (pa_cons (pe_ty (T := "bool") (by rfl) B.bool (by decide +kernel)) pa_nil))) (pe_callB call_isi (by rfl) B.isinstance (by decide +kernel) (pa_cons (pv 1) (pa_cons (pe_ty (T := "bool") (by rfl) B.bool (by decide +kernel)) pa_nil))) (nomark _)) (pw_or1 (pt_cmpR op_ne (pe_callB call_isi (by rfl) B.isinstance (by decide +kernel) (pa_cons (pv 0) (pa_cons (pe_ty (T := "str") (by rfl) B.str (by decide +kernel)) pa_nil))) (pe_callB call_isi (by rfl) B.isinstance (by decide +kernel) (pa_cons (pv 1) (pa_cons (pe_ty (T := "str") (by rfl) B.str (by decide +kernel)) pa_nil))) (nomark _))))) (pss_one (ps_ret pe_bl))
   (pss_nil))
  (pss_one (ps_ret (pe_cmpR (op_eqD hr.units) (pv 0) (pv 1) (nomark _))))))), ?_⟩
  have A := At.nil H
  have isd : kitB (tyOf d) "dict" = some false := by
    cases d with
    | dict _ => cases n <;> exact absurd hs (by intro h; exact h)
    | none => decide +kernel
    | bool _ => show kitB "bool" "dict" = some false; decide +kernel
    | int _ => show kitB "int" "dict" = some false; decide +kernel
    | str _ => show kitB "str" "dict" = some false; decide +kernel
    | list _ => show kitB "list" "dict" = some false; decide +kernel
    | tuple _ => show kitB "tuple" "dict" = some false; decide +kernel
  walk_at "rd"
  refine ⟨y, .ty "dict", _, .type "dict", false, rfl, .ty _, ty_dp hy, kit_ty isd, rd_bl ?_⟩
  walk_at "rd"
  refine ⟨szl, fun tp htp => ?_⟩
  have A1 := A.snoc htp (.tup [.ty "tuple", .ty "list"])
  have k1 : Same H (upd H tp (.tup [.ty "tuple", .ty "list"])) := fun b o e => by rw [upd_ne (ne_of_none e htp)]; exact e
  have hx1 := dp_kp k1 d x hx
  have hy1 := dp_kp k1 d y hy
  revert A1 hx1 hy1
  have htu : (upd H tp (.tup [.ty "tuple", .ty "list"])) tp = some (.tup [.ty "tuple", .ty "list"]) := upd_same
  revert htu k1
  generalize upd H tp (.tup [.ty "tuple", .ty "list"]) = H1
  intro k1 htu A1 hx1 hy1
  walk_at "rd"
  clear hx hy
  cases d with
  | dict _ => cases n <;> exact absurd hs (by intro h; exact h)
  | none =>
    cases hx1
    cases hy1
    refine rd_isiT2 htu (.base .non) (b := false) (b1 := false) (b2 := false) (by decide +kernel) (by decide +kernel) rfl (rd_bl ?_)
    walk_at "rd"
    refine ⟨rfl, rd_bl ?_⟩
    rw [decide_eq_true rfl]
    walk_at "rd"
    refine ⟨rfl, ?_⟩
    rw [decide_eq_true rfl]
    exact q H1 (Kp.of k1)
  | bool v =>
    cases hx1
    cases hy1
    refine rd_isiT2 htu (.base (.bl v)) (b := false) (b1 := false) (b2 := false) (by decide +kernel) (by decide +kernel) rfl (rd_bl ?_)
    walk_at "rd"
    refine ⟨rfl, rd_bl ?_⟩
    rw [decide_eq_false (by intro h; cases h)]
    walk_at "rd"
    refine rd_isi (.base (.bl v)) (b := true) (by decide +kernel) ?_
    walk_at "rd"
    refine rd_isi (.base (.bl v)) (b := true) (by decide +kernel) ?_
    walk_at "rd"
    rw [decide_eq_true rfl]
    walk_at "rd"
    refine rd_isi (.base (.bl v)) (b := false) (by decide +kernel) ?_
    walk_at "rd"
    refine rd_isi (.base (.bl v)) (b := false) (by decide +kernel) ?_
    walk_at "rd"
    rw [decide_eq_true rfl]
    walk_at "rd"
    refine ⟨_, _, (.bl v), (.bl v), rfl, rfl, ?_⟩
    have qq := q H1 (Kp.of k1)
    rw [show true = (_ == _) from (beq_self_eq_true v).symm] at qq
    exact qq
  | int v =>
    cases hx1
    cases hy1
    refine rd_isiT2 htu (.base (.int v)) (b := false) (b1 := false) (b2 := false) (by decide +kernel) (by decide +kernel) rfl (rd_bl ?_)
    walk_at "rd"
    refine ⟨rfl, rd_bl ?_⟩
    rw [decide_eq_false (by intro h; cases h)]
    walk_at "rd"
    refine rd_isi (.base (.int v)) (b := false) (by decide +kernel) ?_
    walk_at "rd"
    refine rd_isi (.base (.int v)) (b := false) (by decide +kernel) ?_
    walk_at "rd"
    rw [decide_eq_true rfl]
    walk_at "rd"
    refine rd_isi (.base (.int v)) (b := false) (by decide +kernel) ?_
    walk_at "rd"
    refine rd_isi (.base (.int v)) (b := false) (by decide +kernel) ?_
    walk_at "rd"
    rw [decide_eq_true rfl]
    walk_at "rd"
    refine ⟨_, _, (.int v), (.int v), rfl, rfl, ?_⟩
    have qq := q H1 (Kp.of k1)
    rw [show true = (_ == _) from (beq_self_eq_true v).symm] at qq
    exact qq
  | str v =>
    have hst : SeqAt.shaped (.str v) = true := by
      have : PyData.strOk v = true := by cases n <;> exact hs
      unfold SeqAt.shaped
      show (PyData.strOk v && decide (0 ≤ 64)) = true
      rw [this]; rfl
    cases hx1
    cases hy1
    refine rd_isiT2 htu (.base (.str v)) (b := false) (b1 := false) (b2 := false) (by decide +kernel) (by decide +kernel) rfl (rd_bl ?_)
    walk_at "rd"
    refine ⟨rfl, rd_bl ?_⟩
    rw [decide_eq_false (by intro h; cases h)]
    walk_at "rd"
    refine rd_isi (.base (.str v)) (b := false) (by decide +kernel) ?_
    walk_at "rd"
    refine rd_isi (.base (.str v)) (b := false) (by decide +kernel) ?_
    walk_at "rd"
    rw [decide_eq_true rfl]
    walk_at "rd"
    refine rd_isi (.base (.str v)) (b := true) (by decide +kernel) ?_
    walk_at "rd"
    refine rd_isi (.base (.str v)) (b := true) (by decide +kernel) ?_
    walk_at "rd"
    rw [decide_eq_true rfl]
    walk_at "rd"
    refine ⟨_, _, (.str v), (.str v), hst, hst, ?_⟩
    have qq := q H1 (Kp.of k1)
    rw [show true = (_ == _) from (beq_self_eq_true v).symm] at qq
    exact qq
  | list ds =>
    cases n with
    | zero => exact absurd hs (by intro h; exact h)
    | succ n =>
    obtain ⟨hsl, hsm⟩ := (show ds.length ≤ 1000 ∧ ∀ e ∈ ds, Sm n e from hs)
    cases hx1 with | @lst a xs _ sx ax =>
    cases hy1 with | @lst b ys _ sy ay =>
    have e := hsp n rfl
    subst e
    refine rd_isiT2 htu (ty_list sy) (b := true) (b1 := false) (b2 := true) (by decide +kernel) (by decide +kernel) rfl (rd_bl ?_)
    walk_at "rd"
    refine rd_isi (ty_list sx) (b := false) (by decide +kernel) ?_
    walk_at "rd"
    refine rd_isi (ty_list sy) (b := false) (by decide +kernel) ?_
    walk_at "rd"
    rw [decide_eq_true rfl]
    walk_at "rd"
    refine rd_isi (ty_list sx) (b := true) (by decide +kernel) ?_
    walk_at "rd"
    refine rd_isi (ty_list sy) (b := true) (by decide +kernel) ?_
    walk_at "rd"
    rw [decide_eq_true rfl]
    walk_at "rd"
    have hlx := dpa_len ax
    have hly := dpa_len ay
    refine rd_andV ?_
    walk_at "rd"
    refine ⟨a, xs, rfl, .inl sx, ?_⟩
    walk_at "rd"
    refine ⟨b, ys, rfl, .inl sy, ?_⟩
    walk_at "rd"
    rw [decide_eq_true (by rw [hlx, hly])]
    walk_at "rd"
    refine rd_izA ?_
    walk_at "rd"
    refine ⟨a, b, xs, ys, rfl, .inl ⟨sx, sy, fun D hD => ?_⟩⟩
    refine lc_it (walk_zip (K := K) (a := a) (b := b) (xs := xs) (ys := ys) rfl) (fun i H' => At [] H1 H' [(D, .lst ((List.replicate i true).map V.bl))] []) ((At.nil H1).snoc hD _) (fun i H' _ A => ⟨A.sq sx (by simp), A.sq sy (by simp)⟩) ?_ ?_
    · rintro i z H2 H2' hi A2 ⟨T, v1, v2, rfl, hT, rfl, e1, e2⟩
      have hi1 : i < ds.length := by omega
      have A3 := A2.snocT hT (.tup [v1, v2])
      refine ⟨T, [v1, v2], rfl, .inl (.inl (A3.tm (T, .tup [v1, v2]) (by simp))), rfl, _, _, rfl, _, _, rfl, rfl, rfl, ?_⟩
      walk_at "rd"
      have ed : ds[i]? = some ds[i] := List.getElem?_eq_getElem hi1
      refine ⟨_, _, ds[i], rfl, dp_kp A3.keep.same _ _ (dpa_get ax e1 ed), dp_kp A3.keep.same _ _ (dpa_get ay e2 ed), hsm _ (List.getElem_mem hi1), fun H4 k4 => ?_⟩
      have A4 := A3.c0 k4
      refine ⟨_, A4.get 0 rfl, by rw [List.length_map, List.length_replicate]; exact szn' (by omega), ?_⟩
      have A5 := (A4.set 0 rfl (.lst ((List.replicate i true).map V.bl ++ [.bl true]))).selT [] (by simp)
      rw [show (List.replicate i true).map V.bl ++ [.bl true] = (List.replicate (i + 1) true).map V.bl by rw [List.replicate_succ', List.map_append]; rfl] at A5 ⊢
      exact A5
    · intro H2 A2
      walk_at "rd"
      refine ⟨D, _, rfl, A2.lst 0 rfl, ?_⟩
      rw [all_true]
      exact q H2 fun p o hp hn => A2.keep _ _ (k1 _ _ hp) hn
  | tuple ds =>
    cases n with
    | zero => exact absurd hs (by intro h; exact h)
    | succ n =>
    obtain ⟨hsl, hsm⟩ := (show ds.length ≤ 1000 ∧ ∀ e ∈ ds, Sm n e from hs)
    cases hx1 with | @tup a xs _ sx ax =>
    cases hy1 with | @tup b ys _ sy ay =>
    have e := hsp n rfl
    subst e
    refine rd_isiT2 htu (ty_tuple sy) (b := true) (b1 := true) (b2 := false) (by decide +kernel) (by decide +kernel) rfl (rd_bl ?_)
    walk_at "rd"
    refine rd_isi (ty_tuple sx) (b := true) (by decide +kernel) ?_
    walk_at "rd"
    refine rd_isi (ty_tuple sy) (b := true) (by decide +kernel) ?_
    walk_at "rd"
    rw [decide_eq_true rfl]
    walk_at "rd"
    refine rd_isi (ty_tuple sx) (b := false) (by decide +kernel) ?_
    walk_at "rd"
    refine rd_isi (ty_tuple sy) (b := false) (by decide +kernel) ?_
    walk_at "rd"
    rw [decide_eq_true rfl]
    walk_at "rd"
    have hlx := dpa_len ax
    have hly := dpa_len ay
    refine rd_andV ?_
    walk_at "rd"
    refine ⟨a, xs, rfl, .inr sx, ?_⟩
    walk_at "rd"
    refine ⟨b, ys, rfl, .inr sy, ?_⟩
    walk_at "rd"
    rw [decide_eq_true (by rw [hlx, hly])]
    walk_at "rd"
    refine rd_izA ?_
    walk_at "rd"
    refine ⟨a, b, xs, ys, rfl, .inr ⟨sx, sy, fun D hD => ?_⟩⟩
    refine lc_it (walk_zipT (K := K) (a := a) (b := b) (xs := xs) (ys := ys) rfl) (fun i H' => At [] H1 H' [(D, .lst ((List.replicate i true).map V.bl))] []) ((At.nil H1).snoc hD _) (fun i H' _ A => ⟨A.st sx (by simp), A.st sy (by simp)⟩) ?_ ?_
    · rintro i z H2 H2' hi A2 ⟨T, v1, v2, rfl, hT, rfl, e1, e2⟩
      have hi1 : i < ds.length := by omega
      have A3 := A2.snocT hT (.tup [v1, v2])
      refine ⟨T, [v1, v2], rfl, .inl (.inl (A3.tm (T, .tup [v1, v2]) (by simp))), rfl, _, _, rfl, _, _, rfl, rfl, rfl, ?_⟩
      walk_at "rd"
      have ed : ds[i]? = some ds[i] := List.getElem?_eq_getElem hi1
      refine ⟨_, _, ds[i], rfl, dp_kp A3.keep.same _ _ (dpa_get ax e1 ed), dp_kp A3.keep.same _ _ (dpa_get ay e2 ed), hsm _ (List.getElem_mem hi1), fun H4 k4 => ?_⟩
      have A4 := A3.c0 k4
      refine ⟨_, A4.get 0 rfl, by rw [List.length_map, List.length_replicate]; exact szn' (by omega), ?_⟩
      have A5 := (A4.set 0 rfl (.lst ((List.replicate i true).map V.bl ++ [.bl true]))).selT [] (by simp)
      rw [show (List.replicate i true).map V.bl ++ [.bl true] = (List.replicate (i + 1) true).map V.bl by rw [List.replicate_succ', List.map_append]; rfl] at A5 ⊢
      exact A5
    · intro H2 A2
      walk_at "rd"
      refine ⟨D, _, rfl, A2.lst 0 rfl, ?_⟩
      rw [all_true]
      exact q H2 fun p o hp hn => A2.keep _ _ (k1 _ _ hp) hn
theorem alike_all {f : Addr} {fd : FuncData} (F : Fun K "_law_alike" "_law_alike" s_law_alike f fd) (B : Blt mg) (hm : mg "_law_alike" = some (.ref f)) (b : Binds K fd P_law_alike []) : ∀ n, Cl P w K mg base (n + 1) "_law_alike" (spAlike K n)
  | 0 => ⟨f, fd, P_law_alike, ok__law_alike F B (n := 0) (k := 0) (sp := fun _ _ _ _ => False) ⟨⟨f, fd, P_law_alike, ⟨fun _ _ _ _ h => h.elim, fun _ _ _ _ _ _ _ _ _ _ _ _ _ h => h.elim⟩, hm, F.kp, b⟩⟩ (fun m h => by omega), hm, F.kp, b⟩
  | n + 1 => ⟨f, fd, P_law_alike, ok__law_alike F B ⟨alike_all F B hm b n⟩ (fun m h => by rw [Nat.succ.inj h]), hm, F.kp, b⟩
end
end Nn

namespace Nn
open PySem PySem.Spec PyProof.Rows L2
local macro_rules | `(tactic| walk_at "rd1") => `(tactic| first
  | with_reducible refine' rd_c ?_
  | ((with_reducible refine' rd_var ?h ?_); (case h => rfl))
  | with_reducible refine' rd_op ?_
  | with_reducible refine' rd_I0 ?_
  | with_reducible refine' rd_seq ?_
  | ((with_reducible refine' rd_mod ?h ?_); (case h => decide))
  | ((with_reducible refine' rd_fdiv ?h ?_); (case h => exact ⟨by decide, by decide⟩))
  | ((with_reducible refine' rd_pow ?h ?_); (case h => exact ⟨by decide, by decide, by decide⟩))
  | ((with_reducible refine' rd_mul ?h ?_); (case h => first | exact Or.inl (by decide) | exact Or.inr (by decide)))
  | with_reducible refine' rd_set ?_
  | with_reducible refine' rd_asg ?_
  | with_reducible refine' rd_cons ?_
  | with_reducible refine' rd_nil ?_
  | with_reducible refine' rd_call ?_
  | with_reducible refine' rd_cb ?_
  | with_reducible refine' rd_if ?_
  | with_reducible refine' rd_test ?_
  | with_reducible refine' rd_B ?_
  | with_reducible refine' rd_bl ?_
  | ((with_reducible refine' rd_eq ?h ?_); (case h => rfl))
  | ((with_reducible refine' rd_ne ?h ?_); (case h => rfl))
  | with_reducible refine' rd_not ?_
  | with_reducible refine' rd_and ?_
  | with_reducible refine' rd_or ?_
  | with_reducible refine' rd_notV ?_
  | with_reducible refine' rd_chain ?_
  | with_reducible refine' rd_ret ?_
  | with_reducible refine' rd_drop ?_
  | with_reducible refine' rd_next' ?_
  | with_reducible refine' rd_lst ?_
  | with_reducible refine' rd_tup ?_
  | with_reducible refine' rd_lc ?_
  | with_reducible refine' rd_rng1 ?_
  | with_reducible refine' rd_istr ?_
  | with_reducible refine' rd_ilst ?_
  | with_reducible refine' rd_ienum ?_
  | with_reducible refine' rd_bm0 ?_
  | with_reducible refine' rd_bm ?_
  | with_reducible refine' rd_m1 ?_
  | with_reducible refine' rd_sl ?_
  | with_reducible refine' rd_po0 ?_
  | with_reducible refine' rd_po1 ?_
  | with_reducible refine' rd_in ?_
  | with_reducible refine' rd_sub ?_
  | with_reducible refine' rd_ifE ?_
  | with_reducible refine' rd_un ?_
  | with_reducible refine' rd_U ?_
  | with_reducible refine' rd_brk ?_
  | with_reducible refine' rd_cont ?_
  | with_reducible refine' rd_yes ?_
  | with_reducible refine' rd_T ?_
  | with_reducible refine' rd_F ?_
  | with_reducible refine' rd_nT ?_
  | with_reducible refine' rd_nF ?_
  | with_reducible refine' rd_dni ?_
  | with_reducible refine' rd_di ?_
  | with_reducible refine' rd_dget ?_
  | with_reducible refine' rd_dget1 ?_
  | with_reducible refine' rd_dget2 ?_
  | with_reducible refine' rd_dput ?_
  | with_reducible refine' rd_dnew ?_
  | with_reducible refine' rd_ikeys ?_
  | with_reducible refine' rd_gn ?_
  | with_reducible refine' rd_for ?_
  | with_reducible refine' rd_make ?_
  | with_reducible refine' rd_meth ?_
  | with_reducible refine' rd_fld ?_
  | with_reducible refine' rd_sfld ?_
  | with_reducible refine' rd_dc ?_
  | with_reducible refine' rd_items ?_
  | with_reducible refine' rd_sadd ?_
  | with_reducible refine' rd_ivals ?_)
local macro_rules | `(tactic| walk_at "sub") => `(tactic| repeat' (first | exact List.nil_sublist _ | exact List.Sublist.refl _ | apply List.Sublist.cons₂ | apply List.Sublist.cons))
local macro_rules | `(tactic| walk_at "rd") => `(tactic| repeat walk_at "rd1")

section
variable {P : Program} {w : World} {K : PySem.W.Frag} {mg : Str → Option Value} {base : Heap}
/-! ### sorted, by one order alone -/
theorem rising_le : ∀ {l : List Str} {p : Str}, risingS p l = true → ∀ x ∈ l, p.cps.toList ≤ x.cps.toList
  | [], _, _, _, h => by cases h
  | y :: r, p, h, x, hx => by
    have h2 : (!ltCps y.cps.toList p.cps.toList) = true ∧ risingS y r = true := Bool.and_eq_true_iff.mp h
    have h1 : p.cps.toList ≤ y.cps.toList := by
      have := h2.1
      rw [ltCps_eq] at this
      simpa using this
    rcases List.mem_cons.mp hx with e | hx
    · rw [e]; exact h1
    · exact List.le_trans h1 (rising_le h2.2 x hx)
theorem rising_pw : ∀ {l : List Str} {p : Str}, risingS p l = true → (p :: l).Pairwise fun a b => a.cps.toList ≤ b.cps.toList
  | [], _, _ => List.pairwise_singleton _ _
  | y :: r, p, h => List.pairwise_cons.mpr ⟨rising_le h, rising_pw (Bool.and_eq_true_iff.mp h).2⟩
theorem sorted_pw : ∀ {l : List Str}, sortedS l = true → l.Pairwise fun a b => a.cps.toList ≤ b.cps.toList
  | [], _ => .nil
  | _ :: _, h => rising_pw h
theorem str_ext' {a b : Str} (h : a.cps.toList = b.cps.toList) : a = b := by
  cases a; cases b
  exact congrArg Str.mk (Array.toList_inj.mp h)
theorem sorted_eq {a b : List Str} (ha : sortedS a = true) (hb : sortedS b = true) (h : a.Perm b) : a = b :=
  List.Perm.eq_of_pairwise (fun _ _ _ _ h1 h2 => str_ext' (List.le_antisymm h1 h2)) (sorted_pw ha) (sorted_pw hb) h
theorem lv_keys {prs lv : List (Str × Option Str)} (nd : (prs.map (·.1)).Nodup) (h : lv.Perm prs) : lv = (lv.map (·.1)).map fun z => (z, toOf prs z) := by
  rw [List.map_map]
  conv => lhs; rw [← List.map_id lv]
  refine List.map_congr_left fun x hx => ?_
  show x = (x.1, toOf prs x.1)
  rw [toOf_mem nd (h.mem_iff.mp hx)]
theorem lv_eq {prs lv lw : List (Str × Option Str)} (nd : (prs.map (·.1)).Nodup) (h : lv.Perm prs) (h' : lw.Perm prs) (s : sortedS (lv.map (·.1)) = true) (s' : sortedS (lw.map (·.1)) = true) : lv = lw := by
  rw [lv_keys nd h, lv_keys nd h', sorted_eq s s' ((h.trans h'.symm).map _)]
theorem find_perm' {prs lv : List (Str × Option Str)} (nd : (prs.map (·.1)).Nodup) (h : lv.Perm prs) (z : Str) : lv.find? (fun e => decide (e.1 = z)) = prs.find? fun e => decide (e.1 = z) := by
  have nd' : (lv.map (·.1)).Nodup := (h.map _).nodup_iff.mpr nd
  cases e : prs.find? fun e => decide (e.1 = z) with
  | some x =>
    have hx := List.mem_of_find?_eq_some e
    have hz := List.find?_some e
    have hz : x.1 = z := of_decide_eq_true hz
    rw [← hz]
    exact find_mem nd' (h.mem_iff.mpr hx)
  | none =>
    rw [List.find?_eq_none] at e ⊢
    exact fun x hx => e x (h.mem_iff.mp hx)
theorem toV_perm {prs lv : List (Str × Option Str)} (nd : (prs.map (·.1)).Nodup) (h : lv.Perm prs) (z : Str) : toV lv z = toV prs z := by unfold toV; rw [find_perm' nd h]
/-! ### pairs by their old names -/
theorem dko_merge {prs : List (Str × Option Str)} (nd : (prs.map (·.1)).Nodup) : mergeK [] (dko prs) = dko prs := by
  unfold dko
  exact merge_nodup _ [] (by rw [List.nil_append, List.map_map]; exact nd)
theorem dict_pairs {H : Hp} {te : List (Addr × (Str × Option Str))} (h : ∀ x ∈ te.map tP, H x.1 = some x.2) : Paired (fun p kv => SqT K H p [kV kv.1, kv.2]) (te.map (·.1)) (dko (te.map (·.2))) := by
  unfold dko dk
  rw [List.map_map, List.map_map]
  exact paired_map fun x hx => .inl (.inl (h _ (List.mem_map_of_mem (f := tP) hx)))
def spByOlds : Sp := fun vs H Q _ => ∃ (a : Addr) (te : List (Addr × (Str × Option Str))), vs = [.ref a] ∧ H a = some (.lst (te.map fun x => V.ref x.1)) ∧ (∀ x ∈ te.map tP, H x.1 = some x.2) ∧ Good (te.map (·.2)) ∧
  ∀ H' p (te' : List (Addr × (Str × Option Str))), (te'.map (·.2)).Perm (te.map (·.2)) → sortedS ((te'.map (·.2)).map (·.1)) = true → H p = none → H' p = some (.lst (te'.map fun x => V.ref x.1)) → (∀ x ∈ te'.map tP, H x.1 = none ∧ H' x.1 = some x.2) → Kp [] H H' → Q (.ref p) H'
end
end Nn

namespace Nn
open PySem PySem.Spec PyProof.Rows L2
local macro_rules | `(tactic| walk_at "rd1") => `(tactic| first
  | with_reducible refine' rd_c ?_
  | ((with_reducible refine' rd_var ?h ?_); (case h => rfl))
  | with_reducible refine' rd_op ?_
  | with_reducible refine' rd_I0 ?_
  | with_reducible refine' rd_seq ?_
  | ((with_reducible refine' rd_mod ?h ?_); (case h => decide))
  | ((with_reducible refine' rd_fdiv ?h ?_); (case h => exact ⟨by decide, by decide⟩))
  | ((with_reducible refine' rd_pow ?h ?_); (case h => exact ⟨by decide, by decide, by decide⟩))
  | ((with_reducible refine' rd_mul ?h ?_); (case h => first | exact Or.inl (by decide) | exact Or.inr (by decide)))
  | with_reducible refine' rd_set ?_
  | with_reducible refine' rd_asg ?_
  | with_reducible refine' rd_cons ?_
  | with_reducible refine' rd_nil ?_
  | with_reducible refine' rd_call ?_
  | with_reducible refine' rd_cb ?_
  | with_reducible refine' rd_if ?_
  | with_reducible refine' rd_test ?_
  | with_reducible refine' rd_B ?_
  | with_reducible refine' rd_bl ?_
  | ((with_reducible refine' rd_eq ?h ?_); (case h => rfl))
  | ((with_reducible refine' rd_ne ?h ?_); (case h => rfl))
  | with_reducible refine' rd_not ?_
  | with_reducible refine' rd_and ?_
  | with_reducible refine' rd_or ?_
  | with_reducible refine' rd_notV ?_
  | with_reducible refine' rd_chain ?_
  | with_reducible refine' rd_ret ?_
  | with_reducible refine' rd_drop ?_
  | with_reducible refine' rd_next' ?_
  | with_reducible refine' rd_lst ?_
  | with_reducible refine' rd_tup ?_
  | with_reducible refine' rd_lc ?_
  | with_reducible refine' rd_rng1 ?_
  | with_reducible refine' rd_istr ?_
  | with_reducible refine' rd_ilst ?_
  | with_reducible refine' rd_ienum ?_
  | with_reducible refine' rd_bm0 ?_
  | with_reducible refine' rd_bm ?_
  | with_reducible refine' rd_m1 ?_
  | with_reducible refine' rd_sl ?_
  | with_reducible refine' rd_po0 ?_
  | with_reducible refine' rd_po1 ?_
  | with_reducible refine' rd_in ?_
  | with_reducible refine' rd_sub ?_
  | with_reducible refine' rd_ifE ?_
  | with_reducible refine' rd_un ?_
  | with_reducible refine' rd_U ?_
  | with_reducible refine' rd_brk ?_
  | with_reducible refine' rd_cont ?_
  | with_reducible refine' rd_yes ?_
  | with_reducible refine' rd_T ?_
  | with_reducible refine' rd_F ?_
  | with_reducible refine' rd_nT ?_
  | with_reducible refine' rd_nF ?_
  | with_reducible refine' rd_dni ?_
  | with_reducible refine' rd_di ?_
  | with_reducible refine' rd_dget ?_
  | with_reducible refine' rd_dget1 ?_
  | with_reducible refine' rd_dget2 ?_
  | with_reducible refine' rd_dput ?_
  | with_reducible refine' rd_dnew ?_
  | with_reducible refine' rd_ikeys ?_
  | with_reducible refine' rd_gn ?_
  | with_reducible refine' rd_for ?_
  | with_reducible refine' rd_make ?_
  | with_reducible refine' rd_meth ?_
  | with_reducible refine' rd_fld ?_
  | with_reducible refine' rd_sfld ?_
  | with_reducible refine' rd_dc ?_
  | with_reducible refine' rd_items ?_
  | with_reducible refine' rd_sadd ?_
  | with_reducible refine' rd_ivals ?_)
local macro_rules | `(tactic| walk_at "sub") => `(tactic| repeat' (first | exact List.nil_sublist _ | exact List.Sublist.refl _ | apply List.Sublist.cons₂ | apply List.Sublist.cons))
local macro_rules | `(tactic| walk_at "rd") => `(tactic| repeat walk_at "rd1")

section
variable {P : Program} {w : World} {K : PySem.W.Frag} {mg : Str → Option Value} {base : Heap}
/-! ### what a plan tells when it is asked -/
/-- pairs as data -/
def dO : Option Str → PyData
  | none => .none
  | some z => .str z
def dP (e : Str × Option Str) : PyData := .tuple [.str e.1, dO e.2]
theorem dp_ov {H : Hp} (o : Option Str) : Dp K H (ov o) (dO o) := by
  cases o with
  | none => exact .non
  | some z => exact .str z
theorem dpa_strs {H : Hp} (zs : List Str) : DpAll K H (zs.map V.str) (zs.map PyData.str) := dpa_of fun z _ => .str z
theorem dpa_prs {H : Hp} {te : List (Addr × (Str × Option Str))} (h : ∀ x ∈ te.map tP, H x.1 = some x.2) : DpAll K H (te.map fun x => V.ref x.1) ((te.map (·.2)).map dP) := by
  rw [List.map_map]
  exact dpa_of fun x hx => .tup (.inl (.inl (h _ (List.mem_map_of_mem (f := tP) hx)))) (.cons (.str _) (.cons (dp_ov _) .nil))
def duesOf (lv : List (Str × Option Str)) (nl : List Str) (i : Int) : List PyData := if i = 0 then lv.map dP else if i = 1 then (lv.map (·.1)).map PyData.str else nl.map PyData.str
structure CAsked (P : Program) (w : World) (K : PySem.W.Frag) (mg : Str → Option Value) (base : Heap) (Cp : Addr) : Prop where
  Plan_pairs : Mt P w K mg base 1 Cp "pairs" (spPairsM Cp)
  Plan_olds : Mt P w K mg base 1 Cp "olds" (spOldsM Cp)
  Plan_news : Mt P w K mg base 1 Cp "news" (spNewsM Cp)
def spAsked (K : PySem.W.Frag) (C : Addr) : Sp := fun vs H Q _ => ∃ (pl : Addr) (i : Int) (lv : List (Str × Option Str)) (nl : List Str), vs = [.ref pl, .int i] ∧ 0 ≤ i ∧ i < 3 ∧ PlanAt C H pl lv ∧ lv.length < 64 ∧ nl.Perm (lv.filterMap (·.2)) ∧ sortedS nl = true ∧
  ∀ H' p xs (N : List (Addr × HO)), H p = none → H' p = some (.lst xs) → (∀ x ∈ N, H x.1 = none ∧ H' x.1 = some x.2) → (∀ x ∈ N, x.1 ≠ p) → (∀ G : Hp, (∀ x ∈ N, G x.1 = some x.2) → DpAll K G xs (duesOf lv nl i)) → Kp [] H H' → Q (.ref p) H'
end
end Nn

namespace Nn
open PySem PySem.Spec PyProof.Rows L2
/-! ### data: what a plan tells -/
theorem depthAll_le {m : Nat} : ∀ {ds : List PyData}, (∀ e ∈ ds, e.depth ≤ m) → PyData.depthAll ds ≤ m
  | [], _ => Nat.zero_le _
  | d :: ds, h => Nat.max_le.mpr ⟨h d List.mem_cons_self, depthAll_le fun e he => h e (List.mem_cons_of_mem _ he)⟩
theorem canAll {ds : List PyData} (h : ∀ e ∈ ds, e.canLay0 = true) : PyData.canLayAll0 ds = true := by
  induction ds with
  | nil => rfl
  | cons d ds ih => rw [PyData.canLayAll0, h d List.mem_cons_self, ih fun e he => h e (List.mem_cons_of_mem _ he)]; rfl
theorem sm_lay : ∀ (n : Nat) (d : PyData), Sm n d → d.canLay0 = true ∧ d.depth ≤ n
  | n, .none, _ => ⟨rfl, Nat.zero_le _⟩
  | n, .bool _, _ => ⟨rfl, Nat.zero_le _⟩
  | n, .int _, _ => ⟨rfl, Nat.zero_le _⟩
  | n, .str z, h => ⟨by cases n <;> exact h, Nat.zero_le _⟩
  | 0, .list _, h => h.elim
  | 0, .tuple _, h => h.elim
  | n + 1, .list ds, h => ⟨canAll fun e he => (sm_lay n e (h.2 e he)).1, Nat.succ_le_succ (depthAll_le fun e he => (sm_lay n e (h.2 e he)).2)⟩
  | n + 1, .tuple ds, h => ⟨canAll fun e he => (sm_lay n e (h.2 e he)).1, Nat.succ_le_succ (depthAll_le fun e he => (sm_lay n e (h.2 e he)).2)⟩
  | 0, .dict _, h => h.elim
  | n + 1, .dict _, h => h.elim
theorem sm_shaped {n : Nat} {d : PyData} (h : Sm n d) (hn : n ≤ 64) : SeqAt.shaped d = true := by
  unfold SeqAt.shaped
  rw [(sm_lay n d h).1, decide_eq_true (Nat.le_trans (sm_lay n d h).2 hn)]; rfl
theorem sm_str {n : Nat} {z : Str} (h : PyData.strOk z = true) : Sm n (.str z) := by cases n <;> exact h
theorem sm_dO {n : Nat} {o : Option Str} (h : ∀ z, o = some z → PyData.strOk z = true) : Sm n (dO o) := by
  cases o with
  | none => cases n <;> exact True.intro
  | some z => exact sm_str (h z rfl)
theorem sm_list {n : Nat} {ds : List PyData} (hl : ds.length ≤ 1000) (h : ∀ e ∈ ds, Sm n e) : Sm (n + 1) (.list ds) := ⟨hl, h⟩
theorem sm_dues {lv : List (Str × Option Str)} {nl : List Str} (g : Good lv) (hn : nl.Perm (lv.filterMap (·.2))) (i : Int) : Sm 2 (.list (duesOf lv nl i)) := by
  have hl := g.len
  have hnl : nl.length < 64 := by have := hn.length_eq; have := List.length_filterMap_le (fun x : Str × Option Str => x.2) lv; omega
  unfold duesOf
  by_cases h0 : i = 0
  · rw [if_pos h0]
    refine sm_list (by rw [List.length_map]; omega) fun e he => ?_
    obtain ⟨x, hx, rfl⟩ := List.mem_map.mp he
    refine ⟨by show 2 ≤ 1000; omega, fun d hd => ?_⟩
    rcases List.mem_cons.mp hd with rfl | hd
    · exact nameOk_ok (g.old x hx)
    · rw [List.mem_singleton] at hd
      subst hd
      exact sm_dO fun z hz => nameOk_ok (g.new x hx z hz)
  · rw [if_neg h0]
    by_cases h1 : i = 1
    · rw [if_pos h1]
      refine sm_list (by rw [List.length_map, List.length_map]; omega) fun e he => ?_
      obtain ⟨x, hx, rfl⟩ := List.mem_map.mp he
      obtain ⟨y, hy, rfl⟩ := List.mem_map.mp hx
      exact sm_str (nameOk_ok (g.old y hy))
    · rw [if_neg h1]
      refine sm_list (by rw [List.length_map]; omega) fun e he => ?_
      obtain ⟨x, hx, rfl⟩ := List.mem_map.mp he
      obtain ⟨y, hy, ey⟩ := List.mem_filterMap.mp (hn.mem_iff.mp hx)
      exact sm_str (nameOk_ok (g.new y hy x ey))
theorem Good.perm {lv prs : List (Str × Option Str)} (h : lv.Perm prs) (g : Good prs) : Good lv :=
  ⟨fun e he => g.old e (h.mem_iff.mp he), fun e he => g.new e (h.mem_iff.mp he), (h.map _).nodup_iff.mpr g.oldsNd, (h.filterMap _).nodup_iff.mpr g.newsNd, by rw [h.length_eq]; exact g.len⟩
theorem plan_kp {C : Addr} {H H' : Hp} {pl : Addr} {lv : List (Str × Option Str)} (h : PlanAt C H pl lv) (k : Kp [] H H') : PlanAt C H' pl lv := by
  obtain ⟨dx, d, h1, h2⟩ := h
  exact ⟨dx, d, k _ _ h1 (by simp), k _ _ h2 (by simp)⟩
section
variable {M : List Addr} {H0 H H' : Hp} {L L' T : List (Addr × HO)} {p : Addr} {o : HO}
theorem At.addB (A : At M H0 H L T) (k : Kp [] H H') (h : H p = none) (hp : H' p = some o) (N : List (Addr × HO)) (hN : ∀ x ∈ N, H x.1 = none ∧ H' x.1 = some x.2) (hd : ∀ x ∈ N, x.1 ≠ p) : At M H0 H' (L ++ [(p, o)]) (T ++ N) := by
  have B := A.addT (A.c0 k) rfl N hN
  have fr := A.fresh h
  refine ⟨B.base, ?_, ?_, ?_, ?_, B.tm, ?_, B.tn⟩
  · rw [List.map_append, List.nodup_append]
    refine ⟨A.nd, by simp, ?_⟩
    intro a ha b hb q
    rw [List.map_singleton, List.mem_singleton] at hb
    subst q; subst hb
    exact fr ha
  · intro x he
    rcases List.mem_append.mp he with he | he
    · exact B.mem x he
    · rw [List.mem_singleton] at he; subst he; exact hp
  · intro x he
    rcases List.mem_append.mp he with he | he
    · exact A.own x he
    · rw [List.mem_singleton] at he; subst he; exact .inl (A.fresh0 h)
  · intro a ha
    rw [List.map_append]
    exact List.mem_append_left _ (A.mL a ha)
  · intro x he
    rw [List.map_append, List.mem_append]
    rintro (q | q)
    · exact B.td x he q
    · rw [List.map_singleton, List.mem_singleton] at q
      rcases List.mem_append.mp he with he | he
      · exact A.freshT h x he q
      · exact hd x he q
theorem At.perm (A : At M H0 H L T) (h : L.Perm L') : At M H0 H L' T :=
  ⟨A.base, (h.map _).nodup_iff.mp A.nd, fun e he => A.mem e (h.mem_iff.mpr he), fun e he => A.own e (h.mem_iff.mpr he), fun a ha => (h.map _).mem_iff.mp (A.mL a ha), A.tm, fun e he q => A.td e he ((h.map _).mem_iff.mpr q), A.tn⟩
end
section
variable {M : List Addr} {H0 H H' : Hp} {L L' T : List (Addr × HO)} {p : Addr} {o : HO}
theorem At.addC (A : At M H0 H L T) (A' : At M H0 H' L' T) (e : L'.map Prod.fst = L.map Prod.fst) (h : H p = none) (hp : H' p = some o) (N : List (Addr × HO)) (hN : ∀ x ∈ N, H x.1 = none ∧ H' x.1 = some x.2) (hd : ∀ x ∈ N, x.1 ≠ p) : At M H0 H' (L' ++ [(p, o)]) (T ++ N) := by
  have B := A.addT A' e N hN
  have C := A.add A' e h hp
  refine ⟨C.base, C.nd, C.mem, C.own, C.mL, B.tm, ?_, B.tn⟩
  intro x he
  rcases List.mem_append.mp he with he | he
  · exact C.td x he
  · rw [List.map_append, List.mem_append]
    rintro (q | q)
    · exact B.td x (List.mem_append_right _ he) q
    · rw [List.map_singleton, List.mem_singleton] at q
      exact hd x he q
theorem At.allT (A : At [] H0 H L T) : At [] H0 H [] (T ++ L) := by
  refine ⟨A.base, List.nodup_nil, by simp, by simp, by simp, ?_, by simp, ?_⟩
  · intro e he
    rcases List.mem_append.mp he with he | he
    · exact A.tm e he
    · exact A.mem e he
  · intro e he
    rcases List.mem_append.mp he with he | he
    · exact A.tn e he
    · exact (A.own e he).resolve_right (by simp)
end
theorem tP_ne {H : Hp} {p : Addr} {xs : List V} {te : List (Addr × (Str × Option Str))} (hp : H p = some (.lst xs)) (h : ∀ x ∈ te.map tP, H x.1 = some x.2) : ∀ x ∈ te.map tP, x.1 ≠ p := by
  intro x hx e
  have h1 := h x hx
  obtain ⟨y, hy, rfl⟩ := List.mem_map.mp hx
  rw [e, hp] at h1
  cases h1
theorem good_pairs {ps : List Str} {td : List (Str × V)} {prs : List (Str × Option Str)} (hp : Pool ps) (ht : Things ps td) (h : Pairs ps td prs) : Good prs :=
  ⟨fun e he => hp.ok _ (ht.sub _ (h.olds _ (List.mem_map_of_mem (f := fun x : Str × Option Str => x.1) he))), fun e he z hz => hp.ok _ (h.news z (List.mem_filterMap.mpr ⟨e, he, hz⟩)).1, h.oldsNd, h.newsNd, by have := h.len; omega⟩
theorem good_nil : Good [] := ⟨by simp, by simp, by simp, by simp, by decide⟩
end Nn

namespace Nn
open PySem PySem.Spec PyProof.Rows L2
/-! ### rings: going from name to name -/
structure Run (f : Str → Option Str) (z : Str) (l : List Str) : Prop where
  hd : l[0]? = some z
  nd : l.Nodup
  st : ∀ i a b, l[i]? = some a → l[i + 1]? = some b → f a = some b
def Inj (f : Str → Option Str) : Prop := ∀ a b c, f a = some c → f b = some c → a = b
section
variable {f : Str → Option Str} {z a y : Str} {l m : List Str}
theorem Run.one : Run f z [z] := ⟨rfl, by simp, fun i a b _ h => by cases i <;> cases h⟩
theorem last_at : l.getLast? = l[l.length - 1]? := List.getLast?_eq_getElem?
theorem Run.pos (r : Run f z l) : 0 < l.length := by
  cases l with
  | nil => have := r.hd; cases this
  | cons => exact Nat.succ_pos _
theorem Run.mem (r : Run f z l) : z ∈ l := List.mem_of_getElem? r.hd
theorem Run.last (r : Run f z l) : ∃ a, l.getLast? = some a := by
  cases e : l.getLast? with
  | none =>
    rw [List.getLast?_eq_none_iff] at e
    have := r.pos
    rw [e] at this; cases this
  | some a => exact ⟨a, rfl⟩
theorem Run.snoc (r : Run f z l) (h : l.getLast? = some a) (e : f a = some y) (hn : y ∉ l) : Run f z (l ++ [y]) := by
  have hp := r.pos
  refine ⟨by rw [List.getElem?_append_left hp]; exact r.hd, ?_, ?_⟩
  · rw [List.nodup_append]
    refine ⟨r.nd, by simp, ?_⟩
    intro x hx y' hy' q
    rw [List.mem_singleton] at hy'
    subst q; subst hy'
    exact hn hx
  · intro i x y' hx hy'
    by_cases hi : i + 1 < l.length
    · rw [List.getElem?_append_left (by omega)] at hx
      rw [List.getElem?_append_left hi] at hy'
      exact r.st i x y' hx hy'
    · have hl : i + 1 < (l ++ [y]).length := (List.getElem?_eq_some_iff.mp hy').1
      rw [List.length_append, List.length_singleton] at hl
      have e1 : i + 1 = l.length := by omega
      rw [e1, List.getElem?_append_right (Nat.le_refl _), Nat.sub_self] at hy'
      cases hy'
      rw [List.getElem?_append_left (by omega)] at hx
      rw [last_at, show l.length - 1 = i by omega, hx] at h
      cases h
      exact e
/-- the next of the last, where it stands in the run, is its first -/
theorem Run.close (r : Run f z l) (inj : Inj f) (h : l.getLast? = some a) (e : f a = some y) (hy : y ∈ l) : y = z := by
  obtain ⟨j, hj⟩ := List.getElem?_of_mem hy
  cases j with
  | zero => rw [r.hd] at hj; exact (Option.some.inj hj).symm
  | succ j =>
    have hl : j + 1 < l.length := (List.getElem?_eq_some_iff.mp hj).1
    have hx : l[j]? = some l[j] := List.getElem?_eq_getElem (by omega)
    have e2 := r.st j _ _ hx hj
    have e3 : l[j] = a := inj _ _ _ e2 e
    rw [e3] at hx
    rw [last_at] at h
    have := nd_ix r.nd hx h
    omega
/-- round: closed -/
structure Cyc (f : Str → Option Str) (z : Str) (l : List Str) : Prop extends Run f z l where
  cl : ∃ a, l.getLast? = some a ∧ f a = some z
theorem Cyc.next (c : Cyc f z l) (h : a ∈ l) : ∃ y ∈ l, f a = some y := by
  obtain ⟨i, hi⟩ := List.getElem?_of_mem h
  by_cases hl : i + 1 < l.length
  · exact ⟨l[i + 1], List.getElem_mem hl, c.st i _ _ hi (List.getElem?_eq_getElem hl)⟩
  · have h1 : i < l.length := (List.getElem?_eq_some_iff.mp hi).1
    obtain ⟨b, hb, e⟩ := c.cl
    rw [last_at, show l.length - 1 = i by omega, hi] at hb
    cases hb
    exact ⟨z, c.mem, e⟩
theorem Cyc.prev (c : Cyc f z l) (h : a ∈ l) : ∃ y ∈ l, f y = some a := by
  obtain ⟨i, hi⟩ := List.getElem?_of_mem h
  cases i with
  | zero =>
    rw [c.hd] at hi
    cases hi
    obtain ⟨b, hb, e⟩ := c.cl
    exact ⟨b, List.mem_of_getElem? (last_at ▸ hb), e⟩
  | succ i =>
    have h1 : i + 1 < l.length := (List.getElem?_eq_some_iff.mp hi).1
    exact ⟨l[i], List.getElem_mem _, c.st i _ _ (List.getElem?_eq_getElem (by omega)) hi⟩
theorem Cyc.sub (c : Cyc f z l) (r : Run f z m) : ∀ x ∈ m, x ∈ l := by
  have key : ∀ (i : Nat) (x : Str), m[i]? = some x → x ∈ l := by
    intro i
    induction i with
    | zero => intro x hx; rw [r.hd] at hx; cases hx; exact c.mem
    | succ i ih =>
      intro x hx
      have h1 : i + 1 < m.length := (List.getElem?_eq_some_iff.mp hx).1
      have h2 : m[i]? = some m[i] := List.getElem?_eq_getElem (by omega)
      obtain ⟨y, hy, e⟩ := c.next (ih _ h2)
      rw [r.st i _ _ h2 hx] at e
      cases e
      exact hy
  intro x hx
  obtain ⟨i, hi⟩ := List.getElem?_of_mem hx
  exact key i x hi
/-- a run that meets a ring began in it -/
theorem Cyc.back (c : Cyc f z l) (inj : Inj f) {k : Str} (r : Run f k m) {x : Str} (hx : x ∈ m) (hl : x ∈ l) : k ∈ l := by
  have key : ∀ (i : Nat) (x : Str), m[i]? = some x → x ∈ l → k ∈ l := by
    intro i
    induction i with
    | zero => intro x hx h; rw [r.hd] at hx; cases hx; exact h
    | succ i ih =>
      intro x hx h
      have h1 : i + 1 < m.length := (List.getElem?_eq_some_iff.mp hx).1
      have h2 : m[i]? = some m[i] := List.getElem?_eq_getElem (by omega)
      obtain ⟨y, hy, e⟩ := c.prev h
      have := inj _ _ _ e (r.st i _ _ h2 hx)
      exact ih _ h2 (this ▸ hy)
  obtain ⟨i, hi⟩ := List.getElem?_of_mem hx
  exact key i x hi hl
theorem Cyc.uniq (c : Cyc f z l) (d : Cyc f z m) : l = m := by
  have key : ∀ i : Nat, i < l.length → i < m.length → l[i]? = m[i]? := by
    intro i
    induction i with
    | zero => intro _ _; rw [c.hd, d.hd]
    | succ i ih =>
      intro h1 h2
      have e := ih (by omega) (by omega)
      have e1 : l[i]? = some l[i] := List.getElem?_eq_getElem (by omega)
      have e2 : l[i + 1]? = some l[i + 1] := List.getElem?_eq_getElem h1
      have e3 : m[i + 1]? = some m[i + 1] := List.getElem?_eq_getElem h2
      have a1 := c.st i _ _ e1 e2
      have a2 := d.st i _ _ (e ▸ e1) e3
      rw [a1] at a2
      rw [e2, e3, Option.some.inj a2]
  have len : ∀ {p q : List Str}, Cyc f z p → Cyc f z q → (∀ i : Nat, i < p.length → i < q.length → p[i]? = q[i]?) → ¬ p.length < q.length := by
    intro p q c d k h
    obtain ⟨a, ha, e⟩ := c.cl
    have hp := c.pos
    rw [last_at] at ha
    have h1 := k (p.length - 1) (by omega) (by omega)
    have h2 : q[p.length - 1 + 1]? = some q[p.length - 1 + 1] := List.getElem?_eq_getElem (by omega)
    have := d.st _ _ _ (h1 ▸ ha) h2
    rw [e] at this
    have e4 : z = q[p.length - 1 + 1] := Option.some.inj this
    rw [← e4] at h2
    have := nd_ix d.nd d.hd h2
    omega
  have hl : l.length = m.length := by
    have h1 := len c d key
    have h2 := len d c fun i a b => (key i b a).symm
    omega
  refine List.ext_getElem? fun i => ?_
  by_cases h : i < l.length
  · exact key i h (by omega)
  · rw [List.getElem?_eq_none (by omega), List.getElem?_eq_none (by omega)]
/-- a ring, from its least name on -/
structure IsRing (f : Str → Option Str) (z : Str) (l : List Str) : Prop extends Cyc f z l where
  len : 1 < l.length
  least : ∀ x ∈ l, z.cps.toList ≤ x.cps.toList
open Classical in
noncomputable def ringAt (f : Str → Option Str) (z : Str) : Option (List Str) := if h : ∃ l, IsRing f z l then some h.choose else none
theorem ringAt_some (h : IsRing f z l) : ringAt f z = some l := by
  have e : ∃ l, IsRing f z l := ⟨l, h⟩
  unfold ringAt
  rw [dif_pos e, e.choose_spec.toCyc.uniq h.toCyc]
theorem ringAt_none (h : ¬ ∃ l, IsRing f z l) : ringAt f z = none := by
  unfold ringAt
  rw [dif_neg h]
/-- the law's run: it ends where it can't go on -/
theorem law_ring (inj : Inj f) (r : Run f z l) (h : l.getLast? = some a) (e : f a = none ∨ ∃ y ∈ l, f a = some y) : (∃ m, IsRing f z m) ↔ f a = some z ∧ 1 < l.length ∧ ∀ x ∈ l, z.cps.toList ≤ x.cps.toList := by
  constructor
  · rintro ⟨m, g⟩
    have hsub := g.toCyc.sub r
    obtain ⟨y, hy, ey⟩ := g.toCyc.next (hsub a (List.mem_of_getElem? (last_at ▸ h)))
    rcases e with e | ⟨y', hy', e⟩
    · rw [ey] at e; cases e
    · rw [ey] at e
      cases e
      have ez := r.close inj h ey hy'
      subst ez
      have c : Cyc f y l := ⟨r, a, h, ey⟩
      have := c.uniq g.toCyc
      subst this
      exact ⟨ey, g.len, g.least⟩
  · rintro ⟨e, hl, hle⟩
    exact ⟨l, ⟨⟨r, a, h, e⟩, hl, hle⟩⟩
/-- the program's walk -/
theorem walk_ring {keys : List Str} {i : Nat} {S : Str → Prop} (inj : Inj f) (hk : ∀ a b, f a = some b → a ∈ keys) (hz : keys[i]? = some z) (nd : keys.Nodup) (so : keys.Pairwise fun a b => a.cps.toList ≤ b.cps.toList)
    (I1 : ∀ j x, j < i → keys[j]? = some x → S x) (I3 : ∀ x, S x → ∃ j k l, j < i ∧ keys[j]? = some k ∧ Run f k l ∧ x ∈ l) :
    (S z → ¬ ∃ m, IsRing f z m) ∧ ∀ {w : List Str} {a : Str}, Run f z w → (∀ x ∈ w, x ∈ keys ∧ ¬ S x) → w.getLast? = some a → (∀ y, f a = some y → y ∉ keys ∨ S y ∨ y ∈ w) →
      ((∃ m, IsRing f z m) ↔ f a = some z ∧ 1 < w.length) ∧ (f a = some z → 1 < w.length → IsRing f z w) := by
  have lt : ∀ {j : Nat} {k : Str}, j < i → keys[j]? = some k → ¬ z.cps.toList ≤ k.cps.toList := by
    intro j k hj hk' hle
    obtain ⟨h1, e1⟩ := List.getElem?_eq_some_iff.mp hk'
    obtain ⟨h2, e2⟩ := List.getElem?_eq_some_iff.mp hz
    have := List.pairwise_iff_getElem.mp so j i h1 h2 hj
    rw [e1, e2] at this
    have e : k = z := str_ext' (List.le_antisymm this hle)
    subst e
    have := nd_ix nd hk' hz
    omega
  have noS : ∀ {m : List Str}, IsRing f z m → ∀ x ∈ m, ¬ S x := by
    intro m g x hx hS
    obtain ⟨j, k, l, hj, hk', r, hxl⟩ := I3 x hS
    exact lt hj hk' (g.least k (g.toCyc.back inj r hxl hx))
  refine ⟨fun hS ⟨m, g⟩ => noS g z g.mem hS, fun {w a} r hw h hstop => ?_⟩
  have fwd : f a = some z → 1 < w.length → IsRing f z w := by
    intro e hl
    refine ⟨⟨r, a, h, e⟩, hl, fun x hx => ?_⟩
    obtain ⟨hxk, hxS⟩ := hw x hx
    obtain ⟨j, hj⟩ := List.getElem?_of_mem hxk
    by_cases hji : j < i
    · exact absurd (I1 j x hji hj) hxS
    · obtain ⟨h1, e1⟩ := List.getElem?_eq_some_iff.mp hj
      obtain ⟨h2, e2⟩ := List.getElem?_eq_some_iff.mp hz
      by_cases hij : i = j
      · subst hij
        rw [hz] at hj; cases hj; exact List.le_refl _
      · have := List.pairwise_iff_getElem.mp so i j h2 h1 (by omega)
        rw [e1, e2] at this
        exact this
  refine ⟨⟨?_, fun ⟨e, hl⟩ => ⟨w, fwd e hl⟩⟩, fwd⟩
  rintro ⟨m, g⟩
  have hsub := g.toCyc.sub r
  obtain ⟨y, hy, ey⟩ := g.toCyc.next (hsub a (List.mem_of_getElem? (last_at ▸ h)))
  have hyw : y ∈ w := by
    rcases hstop y ey with n | n | n
    · obtain ⟨y', _, ey'⟩ := g.toCyc.next hy
      exact absurd (hk _ _ ey') n
    · exact absurd n (noS g y hy)
    · exact n
  have ez := r.close inj h ey hyw
  subst ez
  have := (Cyc.uniq ⟨r, a, h, ey⟩ g.toCyc)
  subst this
  exact ⟨ey, g.len⟩
end
end Nn

namespace Nn
open PySem PySem.Spec PyProof.Rows L2
local macro_rules | `(tactic| walk_at "rd1") => `(tactic| first
  | with_reducible refine' rd_c ?_
  | ((with_reducible refine' rd_var ?h ?_); (case h => rfl))
  | with_reducible refine' rd_op ?_
  | with_reducible refine' rd_I0 ?_
  | with_reducible refine' rd_seq ?_
  | ((with_reducible refine' rd_mod ?h ?_); (case h => decide))
  | ((with_reducible refine' rd_fdiv ?h ?_); (case h => exact ⟨by decide, by decide⟩))
  | ((with_reducible refine' rd_pow ?h ?_); (case h => exact ⟨by decide, by decide, by decide⟩))
  | ((with_reducible refine' rd_mul ?h ?_); (case h => first | exact Or.inl (by decide) | exact Or.inr (by decide)))
  | with_reducible refine' rd_set ?_
  | with_reducible refine' rd_asg ?_
  | with_reducible refine' rd_cons ?_
  | with_reducible refine' rd_nil ?_
  | with_reducible refine' rd_call ?_
  | with_reducible refine' rd_cb ?_
  | with_reducible refine' rd_if ?_
  | with_reducible refine' rd_test ?_
  | with_reducible refine' rd_B ?_
  | with_reducible refine' rd_bl ?_
  | ((with_reducible refine' rd_eq ?h ?_); (case h => rfl))
  | ((with_reducible refine' rd_ne ?h ?_); (case h => rfl))
  | with_reducible refine' rd_not ?_
  | with_reducible refine' rd_and ?_
  | with_reducible refine' rd_or ?_
  | with_reducible refine' rd_notV ?_
  | with_reducible refine' rd_chain ?_
  | with_reducible refine' rd_ret ?_
  | with_reducible refine' rd_drop ?_
  | with_reducible refine' rd_next' ?_
  | with_reducible refine' rd_lst ?_
  | with_reducible refine' rd_tup ?_
  | with_reducible refine' rd_lc ?_
  | with_reducible refine' rd_rng1 ?_
  | with_reducible refine' rd_istr ?_
  | with_reducible refine' rd_ilst ?_
  | with_reducible refine' rd_ienum ?_
  | with_reducible refine' rd_bm0 ?_
  | with_reducible refine' rd_bm ?_
  | with_reducible refine' rd_m1 ?_
  | with_reducible refine' rd_sl ?_
  | with_reducible refine' rd_po0 ?_
  | with_reducible refine' rd_po1 ?_
  | with_reducible refine' rd_in ?_
  | with_reducible refine' rd_sub ?_
  | with_reducible refine' rd_ifE ?_
  | with_reducible refine' rd_un ?_
  | with_reducible refine' rd_U ?_
  | with_reducible refine' rd_brk ?_
  | with_reducible refine' rd_cont ?_
  | with_reducible refine' rd_yes ?_
  | with_reducible refine' rd_T ?_
  | with_reducible refine' rd_F ?_
  | with_reducible refine' rd_nT ?_
  | with_reducible refine' rd_nF ?_
  | with_reducible refine' rd_dni ?_
  | with_reducible refine' rd_di ?_
  | with_reducible refine' rd_dget ?_
  | with_reducible refine' rd_dget1 ?_
  | with_reducible refine' rd_dget2 ?_
  | with_reducible refine' rd_dput ?_
  | with_reducible refine' rd_dnew ?_
  | with_reducible refine' rd_ikeys ?_
  | with_reducible refine' rd_gn ?_
  | with_reducible refine' rd_for ?_
  | with_reducible refine' rd_make ?_
  | with_reducible refine' rd_meth ?_
  | with_reducible refine' rd_fld ?_
  | with_reducible refine' rd_sfld ?_
  | with_reducible refine' rd_dc ?_
  | with_reducible refine' rd_items ?_
  | with_reducible refine' rd_sadd ?_
  | with_reducible refine' rd_ivals ?_)
local macro_rules | `(tactic| walk_at "sub") => `(tactic| repeat' (first | exact List.nil_sublist _ | exact List.Sublist.refl _ | apply List.Sublist.cons₂ | apply List.Sublist.cons))
local macro_rules | `(tactic| walk_at "rd") => `(tactic| repeat walk_at "rd1")

/-! ### a plan as going from name to name -/
theorem toOf_some {prs : List (Str × Option Str)} {a c : Str} (h : toOf prs a = some c) : (a, some c) ∈ prs := by
  unfold toOf at h
  cases e : prs.find? (fun e => decide (e.1 = a)) with
  | none => rw [e] at h; cases h
  | some x =>
    rw [e] at h
    have h : x.2 = some c := h
    have hx := List.mem_of_find?_eq_some e
    have hz := List.find?_some e
    have hz : x.1 = a := of_decide_eq_true hz
    rw [← hz, ← h]
    exact hx
theorem news_inj : ∀ {prs : List (Str × Option Str)}, (prs.filterMap (·.2)).Nodup → ∀ {a b c : Str}, (a, some c) ∈ prs → (b, some c) ∈ prs → a = b
  | [], _, a, b, c, h, _ => by cases h
  | e :: r, nd, a, b, c, h, h' => by
    have tail : ∀ {x : Str}, (x, some c) ∈ r → c ∈ r.filterMap (·.2) := fun h => List.mem_filterMap.mpr ⟨_, h, rfl⟩
    rcases List.mem_cons.mp h with h1 | h1
    · rcases List.mem_cons.mp h' with h2 | h2
      · rw [← h1] at h2; exact (Prod.mk.inj h2).1.symm
      · subst h1
        rw [List.filterMap_cons_some (f := fun x : Str × Option Str => x.2) (b := c) rfl, List.nodup_cons] at nd
        exact absurd (tail h2) nd.1
    · rcases List.mem_cons.mp h' with h2 | h2
      · subst h2
        rw [List.filterMap_cons_some (f := fun x : Str × Option Str => x.2) (b := c) rfl, List.nodup_cons] at nd
        exact absurd (tail h1) nd.1
      · refine news_inj (prs := r) ?_ h1 h2
        cases e2 : e.2 with
        | none => rw [List.filterMap_cons_none e2] at nd; exact nd
        | some x => rw [List.filterMap_cons_some e2, List.nodup_cons] at nd; exact nd.2
theorem toOf_inj {prs : List (Str × Option Str)} (g : Good prs) : Inj (toOf prs) := fun _ _ _ h h' => news_inj g.newsNd (toOf_some h) (toOf_some h')
theorem toOf_key {prs : List (Str × Option Str)} (a b : Str) (h : toOf prs a = some b) : a ∈ prs.map (·.1) := List.mem_map_of_mem (f := fun x : Str × Option Str => x.1) (toOf_some h)
theorem toOf_val {prs : List (Str × Option Str)} {a : Str} (h : a ∈ prs.map (·.1)) : valV (dko prs) (Sum.inr a) = some (ov (toOf prs a)) := by
  rw [valV_dko]
  unfold toOf
  cases e : prs.find? (fun e => decide (e.1 = a)) with
  | none =>
    rw [List.find?_eq_none] at e
    obtain ⟨x, hx, rfl⟩ := List.mem_map.mp h
    exact absurd (decide_eq_true rfl) (e x hx)
  | some x => rfl
theorem toOf_none {prs : List (Str × Option Str)} {a : Str} (h : a ∉ prs.map (·.1)) : valV (dko prs) (Sum.inr a) = none ∧ toOf prs a = none := by
  have e : prs.find? (fun e => decide (e.1 = a)) = none := by
    rw [List.find?_eq_none]
    intro x hx q
    exact h (of_decide_eq_true q ▸ List.mem_map_of_mem (f := fun x : Str × Option Str => x.1) hx)
  rw [valV_dko]
  unfold toOf
  rw [e]
  exact ⟨rfl, rfl⟩
section
variable {σ : L2.St} {H : Hp} {Q : VK} {ta td : TE} {c : TT} {t : TS} {n bk ct : L2.St → Hp → Prop} {rt : VK}
theorem rd_dinN (k : ta σ H fun y H1 => td σ H1 fun x H2 => (∃ a o, x = .ref a ∧ DGet H2 a y o ∧ Q (.bl o.isSome) H2) ∨ ∃ a kvs, x = .ref a ∧ y = .non ∧ Rd H2 a (.dK kvs) ∧ Q (.bl false) H2) : tDInN ta td σ H Q := k
theorem rd_whileX (X : L2.St → Hp → Prop) (W : Nat → L2.St → Hp → Prop) (m : Nat) (h0 : W m σ H) (hx : ∀ σ H, X σ H → n σ H) (hs : (∀ σ H, X σ H → n σ H) → ∀ m σ H, W m σ H → c σ H fun b H1 => if b = true then ∃ N : L2.St → Hp → Prop, (∀ σ' H', N σ' H' → ∃ m', m' < m ∧ W m' σ' H') ∧ t ⟨N, rt, n, N⟩ σ H1 else n σ H1) : tWhile c t ⟨n, rt, bk, ct⟩ σ H := rd_while W m h0 (hs hx)
end
/-- a ring at its address -/
def tR (x : Addr × List Str) : Addr × HO := (x.1, .tup (x.2.map V.str))
/-- the walk so far, and the name it stands at -/
def Wk (f : Str → Option Str) (keys sl : List Str) (z : Str) (w : List Str) (nm : Option Str) : Prop :=
  (∀ x ∈ w, x ∈ keys ∧ x ∉ sl) ∧ ((w = [] ∧ nm = some z) ∨ (Run f z w ∧ ∃ a, w.getLast? = some a ∧ nm = f a))
theorem Wk.step {f : Str → Option Str} {keys sl w : List Str} {z y : Str} (h : Wk f keys sl z w (some y)) (hk : y ∈ keys) (hs : y ∉ sl) (hw : y ∉ w) : Wk f keys sl z (w ++ [y]) (f y) := by
  refine ⟨fun x hx => ?_, .inr ?_⟩
  · rcases List.mem_append.mp hx with hx | hx
    · exact h.1 x hx
    · rw [List.mem_singleton] at hx; subst hx; exact ⟨hk, hs⟩
  · rcases h.2 with ⟨e, e2⟩ | ⟨r, a, ha, e⟩
    · cases e2; subst e
      exact ⟨Run.one, _, rfl, rfl⟩
    · exact ⟨r.snoc ha e.symm hw, y, by rw [List.getLast?_append]; rfl, rfl⟩
section
variable {P : Program} {w : World} {K : PySem.W.Frag} {mg : Str → Option Value} {base : Heap}
def spRings (C : Addr) : Sp := fun vs H Q _ => ∃ (pl : Addr) (lv : List (Str × Option Str)), vs = [.ref pl] ∧ PlanAt C H pl lv ∧ Good lv ∧ sortedS (lv.map (·.1)) = true ∧
  ∀ H' p (rs : List (Addr × List Str)), rs.map (·.2) = (lv.map (·.1)).filterMap (ringAt (toOf lv)) → H p = none → H' p = some (.lst (rs.map fun x => V.ref x.1)) → (∀ x ∈ rs.map tR, H x.1 = none ∧ H' x.1 = some x.2) → Kp [] H H' → Q (.ref p) H'
theorem ok_Plan_rings {f : Addr} {fd : FuncData} (F : Fun K "rings" "Plan.rings" sPlan_rings f fd) (B : Blt mg) {Cp : Addr} (T : PlanC K Cp) : FnOk P w K mg base CX0 1 f fd PPlan_rings (spRings Cp) := by
  refine F.ok scPlan_rings (fun vs H Q E h => by obtain ⟨pl, lv, rfl, _⟩ := h; rfl) (fun cdv A outer s0 H vs Q E hr h => ?_)
  obtain ⟨pl, lv, rfl, ⟨dx, d, hpl, hd⟩, hg, hso, q⟩ := h
  refine ⟨_, pss_cons (ps_set (i := 1) scPlan_rings.nd rfl (Or.inl rfl) (pe_lst pa_nil))
  (pss_cons (ps_set (i := 2) scPlan_rings.nd rfl (Or.inl rfl) (pe_callTy0 cr_set0K (by rfl) B.set (by decide +kernel)))
  (pss_cons (ps_lock (ps_for PassesOwn.never rfl (pi_keys (pe_fld (pv 0) rfl)) (pg_name (i := 3) scPlan_rings.nd rfl (Or.inl rfl))
   (pss_cons (ps_set (i := 4) scPlan_rings.nd rfl (Or.inl rfl) (pe_lst pa_nil))
  (pss_cons (ps_set (i := 5) scPlan_rings.nd rfl (Or.inl rfl) (pv 3))
  (pss_cons (ps_while PassesOwn.never (PW.pt (pw_and (pt_cmp (pc_dinN (hu_of hr) (pv 5) (pe_fld (pv 0) rfl))) (pw_and1 (pt_cmpR or_snotinK (pv 5) (pv 2) (by rfl))))) (pss_cons (ps_expr (pe_saddK (pv 2) (pa_cons (pv 5) pa_nil)))
  (pss_cons (ps_expr (pe_bm PySem.F.plainAttrs_list PySem.F.slot_list_append PySem.F.type_list_append mt_append (pv 4) (pa_cons (pv 5) pa_nil)))
  (pss_one (ps_set (i := 5) scPlan_rings.nd rfl (Or.inl rfl) (pe_dget (hu_of hr) (pe_fld (pv 0) rfl) (pv 5) (fun _ _ => rfl)))))))
  (pss_one (ps_if (PW.pt (pw_and (pt_cmpR op_eq (pv 5) (pv 3) (nomark _)) (pw_and1 (pt_cmpR op_gt (pe_callB call_len_seq (by rfl) B.len (by decide +kernel) (pa_cons (pv 4) pa_nil)) pe_int (nomark _))))) (pss_one (ps_expr (pe_bm PySem.F.plainAttrs_list PySem.F.slot_list_append PySem.F.type_list_append mt_append (pv 1) (pa_cons (pe_callTy call_tuple_of (by rfl) B.tuple (by decide +kernel) (pa_cons (pv 4) pa_nil)) pa_nil))))
   (pss_nil))))))))
  (pss_one (ps_ret (pv 1))))), ?_⟩
  have A := At.one hd
  have hne : pl ≠ d := ne_of hpl hd (by intro e; cases e)
  have hpN : pl ∉ [d] := by rw [List.mem_singleton]; exact hne
  walk_at "rd"
  refine ⟨szl, fun pf hpf => A.u2 hpf fun H1 A1 => ?_⟩
  walk_at "rd"
  refine ⟨rfl, fun ps hps => A1.u1 hps fun H2 A2 => ?_⟩
  walk_at "rd"
  refine rd_lock (A2.get 0 rfl) trivial fun od => ?_
  have A3 := A2.set 0 rfl (.frz od (.dK (dko lv)))
  walk_at "rd"
  refine ⟨pl, Cp, dx, _, _, rfl, A3.base _ _ hpl hpN, T.cl, T.nl, rfl, ?_⟩
  refine ⟨d, od, rfl, .inl ⟨dko lv, A3.get 0 rfl, ?_⟩⟩
  refine forI (walk_keys (d := d) (o := od) (kvs := dko lv)) (fun i σ H' => ∃ (sl : List Str) (rs : List (Addr × List Str)) (y3 y4 y5 : Option V) (S : Key → Bool), σ = [some (.ref pl), some (.ref pf), some (.ref ps), y3, y4, y5] ∧ (∀ x, S (.inr x) = decide (x ∈ sl)) ∧ sl.Nodup ∧ (∀ x ∈ sl, x ∈ lv.map (·.1)) ∧
      (∀ j x, j < i → (lv.map (·.1))[j]? = some x → x ∈ sl) ∧ (∀ x, x ∈ sl → ∃ j k l, j < i ∧ (lv.map (·.1))[j]? = some k ∧ Run (toOf lv) k l ∧ x ∈ l) ∧ rs.map (·.2) = ((lv.map (·.1)).take i).filterMap (ringAt (toOf lv)) ∧
      At [d] H H' [(d, .frz od (.dK (dko lv))), (pf, .lst (rs.map fun x => V.ref x.1)), (ps, SetK P w ps S sl.length)] (rs.map tR))
    ⟨[], [], none, none, none, _, rfl, by intro x; rfl, List.nodup_nil, by simp, by intro j x h; omega, by simp, rfl, A3⟩ (fun i σ H' _ ⟨_, _, _, _, _, _, _, _, _, _, _, _, _, A⟩ => A.get 0 rfl) ?_ ?_
  · rintro i x σ H4 H4' hi ⟨sl, rs, y3, y4, y5, S, rfl, hS, hnd, hsub, I1, I3, hrs, A4⟩ ⟨rfl, k, v, hk, rfl⟩
    have hi' : i < lv.length := by rw [dko_len] at hi; exact hi
    have ek : k = .inr lv[i].1 := by
      unfold dko dk at hk
      rw [List.map_map, List.getElem?_map, List.getElem?_eq_getElem hi'] at hk
      exact (Prod.mk.inj (Option.some.inj hk)).1.symm
    subst ek
    have hz : (lv.map (·.1))[i]? = some lv[i].1 := by rw [List.getElem?_map, List.getElem?_eq_getElem hi']; rfl
    have htk : (lv.map (·.1)).take (i + 1) = (lv.map (·.1)).take i ++ [lv[i].1] := by rw [List.take_add_one, hz]; rfl
    generalize lv[i].1 = z at *
    have hkl : (lv.map (·.1)).length < 64 := by rw [List.length_map]; exact hg.len
    have WR := walk_ring (S := fun x => x ∈ sl) (toOf_inj hg) toOf_key hz hg.oldsNd (sorted_pw hso) I1 I3
    walk_at "rd"
    refine ⟨szl, fun pw hpw => A4.u2 hpw fun H5 A5 => ?_⟩
    walk_at "rd"
    refine rd_whileX (fun σ H' => ∃ (wk : List Str) (nm : Option Str) (S : Key → Bool), σ = [some (.ref pl), some (.ref pf), some (.ref ps), some (.str z), some (.ref pw), some (ov nm)] ∧ Wk (toOf lv) (lv.map (·.1)) sl z wk nm ∧ (sl ++ wk).Nodup ∧ (∀ x, S (.inr x) = decide (x ∈ sl ++ wk)) ∧
        (∀ y, nm = some y → y ∉ lv.map (·.1) ∨ y ∈ sl ∨ y ∈ wk) ∧ At [d] H H' [(d, .frz od (.dK (dko lv))), (pf, .lst (rs.map fun x => V.ref x.1)), (ps, SetK P w ps S (sl ++ wk).length), (pw, .lst (wk.map V.str))] (rs.map tR))
      (fun m σ H' => ∃ (wk : List Str) (nm : Option Str) (S : Key → Bool), σ = [some (.ref pl), some (.ref pf), some (.ref ps), some (.str z), some (.ref pw), some (ov nm)] ∧ Wk (toOf lv) (lv.map (·.1)) sl z wk nm ∧ (sl ++ wk).Nodup ∧ (∀ x, S (.inr x) = decide (x ∈ sl ++ wk)) ∧
        m + (sl ++ wk).length = (lv.map (·.1)).length ∧ At [d] H H' [(d, .frz od (.dK (dko lv))), (pf, .lst (rs.map fun x => V.ref x.1)), (ps, SetK P w ps S (sl ++ wk).length), (pw, .lst (wk.map V.str))] (rs.map tR))
      ((lv.map (·.1)).length - sl.length) ⟨[], some z, S, rfl, ⟨by simp, .inl ⟨rfl, rfl⟩⟩, by rw [List.append_nil]; exact hnd, by rw [List.append_nil]; exact hS, by rw [List.append_nil]; have := List.Nodup.length_le_of_subset hnd (fun x hx => hsub x hx); omega, by rw [List.append_nil]; exact A5⟩ ?_ ?_
    · rintro σ H6 ⟨wk, nm, S, rfl, hw, hnd2, hS2, hstop, A6⟩
      have hz' : z ∈ sl ++ wk := by
        rcases hw.2 with ⟨e, e2⟩ | ⟨r, _⟩
        · rcases hstop z e2 with n | n | n
          · exact absurd (List.mem_of_getElem? hz) n
          · exact List.mem_append_left _ n
          · exact List.mem_append_right _ n
        · exact List.mem_append_right _ r.mem
      have hrun : ∀ x ∈ wk, Run (toOf lv) z wk := by
        rcases hw.2 with ⟨e, e2⟩ | ⟨r, _⟩
        · subst e; simp
        · exact fun _ _ => r
      have hup : ∀ (H' : Hp) (rs' : List (Addr × List Str)), rs'.map (·.2) = ((lv.map (·.1)).take (i + 1)).filterMap (ringAt (toOf lv)) → At [d] H H' [(d, .frz od (.dK (dko lv))), (pf, .lst (rs'.map fun x => V.ref x.1)), (ps, SetK P w ps S (sl ++ wk).length)] (rs'.map tR) →
          ∃ (sl : List Str) (rs : List (Addr × List Str)) (y3 y4 y5 : Option V) (S : Key → Bool), [some (V.ref pl), some (.ref pf), some (.ref ps), some (.str z), some (.ref pw), some (ov nm)] = [some (.ref pl), some (.ref pf), some (.ref ps), y3, y4, y5] ∧ (∀ x, S (.inr x) = decide (x ∈ sl)) ∧ sl.Nodup ∧ (∀ x ∈ sl, x ∈ lv.map (·.1)) ∧
      (∀ j x, j < i + 1 → (lv.map (·.1))[j]? = some x → x ∈ sl) ∧ (∀ x, x ∈ sl → ∃ j k l, j < i + 1 ∧ (lv.map (·.1))[j]? = some k ∧ Run (toOf lv) k l ∧ x ∈ l) ∧ rs.map (·.2) = ((lv.map (·.1)).take (i + 1)).filterMap (ringAt (toOf lv)) ∧
      At [d] H H' [(d, .frz od (.dK (dko lv))), (pf, .lst (rs.map fun x => V.ref x.1)), (ps, SetK P w ps S sl.length)] (rs.map tR) := by
        intro H' rs' h1 h2
        refine ⟨sl ++ wk, rs', _, _, _, S, rfl, hS2, hnd2, fun x hx => ?_, fun j x hj hx => ?_, fun x hx => ?_, h1, h2⟩
        · rcases List.mem_append.mp hx with hx | hx
          · exact hsub x hx
          · exact (hw.1 x hx).1
        · by_cases hji : j < i
          · exact List.mem_append_left _ (I1 j x hji hx)
          · have : j = i := by omega
            subst this
            rw [hz] at hx
            cases hx
            exact hz'
        · rcases List.mem_append.mp hx with hx | hx
          · obtain ⟨j, k, l, h1, h2, h3, h4⟩ := I3 x hx
            exact ⟨j, k, l, by omega, h2, h3, h4⟩
          · exact ⟨i, z, wk, by omega, hz, hrun x hx, hx⟩
      have hno : (¬ ∃ m, IsRing (toOf lv) z m) → rs.map (·.2) = ((lv.map (·.1)).take (i + 1)).filterMap (ringAt (toOf lv)) := by
        intro h
        rw [htk, List.filterMap_append, hrs, show List.filterMap (ringAt (toOf lv)) [z] = [] by rw [List.filterMap_cons_none (ringAt_none h)]; rfl, List.append_nil]
      have A7 := A6.sel (L' := [(d, .frz od (.dK (dko lv))), (pf, .lst (rs.map fun x => V.ref x.1)), (ps, SetK P w ps S (sl ++ wk).length)]) (by simp) (by walk_at "sub")
      walk_at "rd"
      refine rd_eq (by cases nm <;> rfl) (rd_bl ?_)
      refine rd_ite (fun e => ?_) (fun e => ?_)
      · have e : nm = some z := by
          cases nm with
          | none => cases e
          | some y => exact congrArg some (V.str.inj e)
        walk_at "rd"
        refine ⟨pw, _, rfl, .inl (A6.lst 3 rfl), ?_⟩
        rw [List.length_map]
        walk_at "rd"
        refine rd_ite (fun hl => ?_) (fun hl => ?_)
        · have hl : 1 < wk.length := by omega
          rcases hw.2 with ⟨e0, _⟩ | ⟨r, a, hla, hnm⟩
          · subst e0; cases hl
          have g := (WR.2 r hw.1 hla fun y ey => hstop y (by rw [hnm]; exact ey)).2 (by rw [← hnm]; exact e) hl
          walk_at "rd"
          refine ⟨.inl ⟨rfl, _, A6.lst 1 rfl⟩, ?_⟩
          walk_at "rd"
          refine ⟨pw, _, rfl, .inl ⟨A6.lst 3 rfl, fun pt hpt => A6.t2 hpt fun H8 A8 => ?_⟩⟩
          have hrl : rs.length ≤ 64 := by
            have := congrArg List.length hrs
            rw [List.length_map] at this
            have h2 := List.length_filterMap_le (ringAt (toOf lv)) ((lv.map (·.1)).take i)
            rw [List.length_take] at h2
            omega
          refine ⟨pf, _, _, rfl, rfl, A8.get 1 rfl, by rw [List.length_map]; exact szn' (by omega), ?_⟩
          have A9 := (A8.set 1 rfl (.lst ((rs.map fun x => V.ref x.1) ++ [.ref pt]))).sel (L' := [(d, .frz od (.dK (dko lv))), (pf, .lst ((rs.map fun x => V.ref x.1) ++ [.ref pt])), (ps, SetK P w ps S (sl ++ wk).length)]) (by simp) (by walk_at "sub")
          refine hup _ (rs ++ [(pt, wk)]) ?_ ?_
          · rw [List.map_append, htk, List.filterMap_append, hrs, show List.filterMap (ringAt (toOf lv)) [z] = [wk] by rw [List.filterMap_cons_some (ringAt_some g)]; rfl]; rfl
          · rw [List.map_append, List.map_append]; exact A9
        · refine hup _ rs (hno ?_) A7
          rcases hw.2 with ⟨e0, e2⟩ | ⟨r, a, hla, hnm⟩
          · subst e0
            rw [List.append_nil] at hz'
            exact WR.1 hz'
          · intro h
            have := ((WR.2 r hw.1 hla fun y ey => hstop y (by rw [hnm]; exact ey)).1.mp h).2
            omega
      · refine rd_F ?_
        refine hup _ rs (hno ?_) A7
        rcases hw.2 with ⟨e0, e2⟩ | ⟨r, a, hla, hnm⟩
        · subst e2
          exact absurd rfl e
        · intro h
          have := ((WR.2 r hw.1 hla fun y ey => hstop y (by rw [hnm]; exact ey)).1.mp h).1
          rw [hnm, this] at e
          exact absurd rfl e
    · rintro hx m σ H6 ⟨wk, nm, S, rfl, hw, hnd2, hS2, hm, A6⟩
      walk_at "rd"
      refine rd_dinN ?_
      walk_at "rd"
      refine ⟨pl, Cp, dx, _, _, rfl, A6.base _ _ hpl hpN, T.cl, T.nl, rfl, ?_⟩
      cases nm with
      | none =>
        refine .inr ⟨d, _, rfl, rfl, .inr ⟨od, A6.get 0 rfl⟩, rd_bl ?_⟩
        refine rd_F (rd_F ?_)
        exact hx _ _ ⟨wk, none, S, rfl, hw, hnd2, hS2, by simp, A6⟩
      | some y =>
        refine .inl ⟨d, _, rfl, .inl ⟨dko lv, .inr y, .inr ⟨od, A6.get 0 rfl⟩, rfl, rfl⟩, rd_bl ?_⟩
        rw [valV_dko_some]
        refine rd_ite (fun hyk => ?_) (fun hyk => ?_)
        · walk_at "rd"
          refine ⟨.inr y, ps, S, _, rfl, rfl, A6.get 2 rfl, rd_bl ?_⟩
          rw [if_pos rfl, hS2]
          refine rd_iteN (fun hys => ?_) (fun hys => ?_)
          · have hnd3 : (sl ++ (wk ++ [y])).Nodup := by
              rw [← List.append_assoc, List.nodup_append]
              refine ⟨hnd2, by simp, ?_⟩
              intro a ha b hb e
              rw [List.mem_singleton] at hb
              subst e; subst hb
              exact hys ha
            have hw' := hw.step hyk (fun h => hys (List.mem_append_left _ h)) (fun h => hys (List.mem_append_right _ h))
            have hlen3 : (sl ++ (wk ++ [y])).length ≤ (lv.map (·.1)).length := List.Nodup.length_le_of_subset hnd3 fun x hx => by
              rcases List.mem_append.mp hx with hx | hx
              · exact hsub x hx
              · exact (hw'.1 x hx).1
            have e3 : (sl ++ (wk ++ [y])).length = (sl ++ wk).length + 1 := by rw [← List.append_assoc, List.length_append (as := sl ++ wk)]; rfl
            refine ⟨fun σ' H' => ∃ m', m' < m ∧ ∃ (wk : List Str) (nm : Option Str) (S : Key → Bool), σ' = [some (.ref pl), some (.ref pf), some (.ref ps), some (.str z), some (.ref pw), some (ov nm)] ∧ Wk (toOf lv) (lv.map (·.1)) sl z wk nm ∧ (sl ++ wk).Nodup ∧ (∀ x, S (.inr x) = decide (x ∈ sl ++ wk)) ∧
              m' + (sl ++ wk).length = (lv.map (·.1)).length ∧ At [d] H H' [(d, .frz od (.dK (dko lv))), (pf, .lst (rs.map fun x => V.ref x.1)), (ps, SetK P w ps S (sl ++ wk).length), (pw, .lst (wk.map V.str))] (rs.map tR), fun σ' H' h => h, ?_⟩
            walk_at "rd"
            refine ⟨⟨_, _, _, rfl, A6.get 2 rfl⟩, ?_⟩
            walk_at "rd"
            refine ⟨_, .inr y, S, _, rfl, rfl, A6.get 2 rfl, by unfold scanBound; omega, ?_⟩
            have eS : S (.inr y) = false := by rw [hS2, decide_eq_false hys]
            rw [eS, if_neg (by decide), ← e3]
            dsimp only
            refine A6.s1 2 rfl fun H7 A7 => ?_
            walk_at "rd"
            refine ⟨.inl ⟨rfl, _, A7.lst 3 rfl⟩, ?_⟩
            walk_at "rd"
            refine ⟨pw, _, _, rfl, rfl, A7.get 3 rfl, ?_, A7.s2 3 rfl fun H8 A8 => ?_⟩
            · have h9 : wk.length ≤ (sl ++ wk).length := by rw [List.length_append]; omega
              rw [List.length_map]; exact szn' (by omega)
            walk_at "rd"
            refine ⟨pl, Cp, dx, _, _, rfl, A8.base _ _ hpl hpN, T.cl, T.nl, rfl, ?_⟩
            walk_at "rd"
            refine ⟨d, ov (toOf lv y), rfl, ?_, ?_⟩
            · rw [← toOf_val hyk]; exact .inl ⟨dko lv, .inr y, .inr ⟨od, A8.get 0 rfl⟩, rfl, rfl⟩
            refine ⟨m - 1, by omega, wk ++ [y], toOf lv y, fun j => S j || decide (j = .inr y), rfl, hw', hnd3, fun x => ?_, by omega, ?_⟩
            · show (S (.inr x) || decide (Sum.inr x = Sum.inr y)) = _
              rw [hS2, ← Bool.decide_or]
              refine decide_eq_decide.mpr ?_
              rw [← List.append_assoc, List.mem_append (s := sl ++ wk), List.mem_singleton]
              exact ⟨fun h => h.imp_right Sum.inr.inj, fun h => h.imp_right (congrArg _)⟩
            · rw [List.map_append]; exact A8
          · exact hx _ _ ⟨wk, some y, S, rfl, hw, hnd2, hS2, by rintro y' e; cases e; exact .inr (List.mem_append.mp hys), A6⟩
        · refine rd_F ?_
          exact hx _ _ ⟨wk, some y, S, rfl, hw, hnd2, hS2, by rintro y' e; cases e; exact .inl hyk, A6⟩
  · rintro σ H4 ⟨sl, rs, y3, y4, y5, S, rfl, hS, hnd, hsub, I1, I3, hrs, A4⟩
    rw [dko_len, ← List.length_map (f := fun x : Str × Option Str => x.1), List.take_length] at hrs
    refine ⟨A4.get 0 rfl, ?_⟩
    have A5 := A4.set 0 rfl (.dK (dko lv))
    revert A5
    generalize upd H4 d (.dK (dko lv)) = H5
    intro A5
    walk_at "rd"
    refine q _ pf rs hrs (A5.new0 1 rfl (by rw [List.mem_singleton]; exact A5.ne 1 0 rfl rfl (by decide))) (A5.get 1 rfl) (fun x hx => ⟨A5.tn x hx, A5.tm x hx⟩) fun b o hb _ => ?_
    by_cases e : b = d
    · subst e
      rw [hd] at hb
      cases hb
      exact A5.get 0 rfl
    · exact A5.base b o hb (by rw [List.mem_singleton]; exact e)
end
end Nn

namespace Nn
open PySem PySem.Spec PyProof.Rows L2
local macro_rules | `(tactic| walk_at "rd1") => `(tactic| first
  | with_reducible refine' rd_c ?_
  | ((with_reducible refine' rd_var ?h ?_); (case h => rfl))
  | with_reducible refine' rd_op ?_
  | with_reducible refine' rd_I0 ?_
  | with_reducible refine' rd_seq ?_
  | ((with_reducible refine' rd_mod ?h ?_); (case h => decide))
  | ((with_reducible refine' rd_fdiv ?h ?_); (case h => exact ⟨by decide, by decide⟩))
  | ((with_reducible refine' rd_pow ?h ?_); (case h => exact ⟨by decide, by decide, by decide⟩))
  | ((with_reducible refine' rd_mul ?h ?_); (case h => first | exact Or.inl (by decide) | exact Or.inr (by decide)))
  | with_reducible refine' rd_set ?_
  | with_reducible refine' rd_asg ?_
  | with_reducible refine' rd_cons ?_
  | with_reducible refine' rd_nil ?_
  | with_reducible refine' rd_call ?_
  | with_reducible refine' rd_cb ?_
  | with_reducible refine' rd_if ?_
  | with_reducible refine' rd_test ?_
  | with_reducible refine' rd_B ?_
  | with_reducible refine' rd_bl ?_
  | ((with_reducible refine' rd_eq ?h ?_); (case h => rfl))
  | ((with_reducible refine' rd_ne ?h ?_); (case h => rfl))
  | with_reducible refine' rd_not ?_
  | with_reducible refine' rd_and ?_
  | with_reducible refine' rd_or ?_
  | with_reducible refine' rd_notV ?_
  | with_reducible refine' rd_chain ?_
  | with_reducible refine' rd_ret ?_
  | with_reducible refine' rd_drop ?_
  | with_reducible refine' rd_next' ?_
  | with_reducible refine' rd_lst ?_
  | with_reducible refine' rd_tup ?_
  | with_reducible refine' rd_lc ?_
  | with_reducible refine' rd_rng1 ?_
  | with_reducible refine' rd_istr ?_
  | with_reducible refine' rd_ilst ?_
  | with_reducible refine' rd_ienum ?_
  | with_reducible refine' rd_bm0 ?_
  | with_reducible refine' rd_bm ?_
  | with_reducible refine' rd_m1 ?_
  | with_reducible refine' rd_sl ?_
  | with_reducible refine' rd_po0 ?_
  | with_reducible refine' rd_po1 ?_
  | with_reducible refine' rd_in ?_
  | with_reducible refine' rd_sub ?_
  | with_reducible refine' rd_ifE ?_
  | with_reducible refine' rd_un ?_
  | with_reducible refine' rd_U ?_
  | with_reducible refine' rd_brk ?_
  | with_reducible refine' rd_cont ?_
  | with_reducible refine' rd_yes ?_
  | with_reducible refine' rd_T ?_
  | with_reducible refine' rd_F ?_
  | with_reducible refine' rd_nT ?_
  | with_reducible refine' rd_nF ?_
  | with_reducible refine' rd_dni ?_
  | with_reducible refine' rd_di ?_
  | with_reducible refine' rd_dget ?_
  | with_reducible refine' rd_dget1 ?_
  | with_reducible refine' rd_dget2 ?_
  | with_reducible refine' rd_dput ?_
  | with_reducible refine' rd_dnew ?_
  | with_reducible refine' rd_ikeys ?_
  | with_reducible refine' rd_gn ?_
  | with_reducible refine' rd_for ?_
  | with_reducible refine' rd_make ?_
  | with_reducible refine' rd_meth ?_
  | with_reducible refine' rd_fld ?_
  | with_reducible refine' rd_sfld ?_
  | with_reducible refine' rd_dc ?_
  | with_reducible refine' rd_items ?_
  | with_reducible refine' rd_sadd ?_
  | with_reducible refine' rd_ivals ?_)
local macro_rules | `(tactic| walk_at "sub") => `(tactic| repeat' (first | exact List.nil_sublist _ | exact List.Sublist.refl _ | apply List.Sublist.cons₂ | apply List.Sublist.cons))
local macro_rules | `(tactic| walk_at "rd") => `(tactic| repeat walk_at "rd1")

theorem eqV_str (x y : Str) : eqV (.str x) (.str y) = decide (x = y) := by
  show (_ : Bool) = _
  by_cases h : x = y
  · subst h; rw [decide_eq_true rfl]; exact beq_self_eq_true _
  · rw [decide_eq_false h]; exact beq_eq_false_iff_ne.mpr h
theorem inV_strs (x : Str) (l : List Str) : inV (.str x) (l.map V.str) = decide (x ∈ l) := by
  unfold inV
  rw [List.any_map]
  induction l with
  | nil => rfl
  | cons y r ih =>
    rw [List.any_cons, ih]
    show (eqV (.str y) (.str x) || _) = _
    rw [eqV_str, ← Bool.decide_or]
    exact decide_eq_decide.mpr (by rw [List.mem_cons, eq_comm (a := x)])
theorem flat_strs (l : List Str) : (l.map V.str).all flatV = true := by
  rw [List.all_map]
  exact List.all_eq_true.mpr fun _ _ => rfl
theorem atI_last {l : List Str} {a : Str} (h : l.getLast? = some a) : atI (l.map V.str) (-1) = some (.str a) := by
  have hp : 0 < l.length := by
    cases l with
    | nil => cases h
    | cons => exact Nat.succ_pos _
  rw [last_at] at h
  unfold atI ixN
  rw [if_neg (by decide), List.length_map, if_pos (by omega)]
  show (l.map V.str)[(-1 + (l.length : Int)).toNat]? = _
  rw [show (-1 + (l.length : Int)).toNat = l.length - 1 by omega, List.getElem?_map, h]
  rfl
theorem toOf_get {prs : List (Str × Option Str)} (a : Str) : (valV (dko prs) (Sum.inr a)).getD .non = ov (toOf prs a) := by
  by_cases h : a ∈ prs.map (·.1)
  · rw [toOf_val h]; rfl
  · rw [(toOf_none h).1, (toOf_none h).2]; rfl
section
variable {P : Program} {w : World} {K : PySem.W.Frag} {mg : Str → Option Value} {base : Heap}
def spLRings : Sp := fun vs H Q _ => ∃ (a : Addr) (te : List (Addr × (Str × Option Str))), vs = [.ref a] ∧ H a = some (.lst (te.map fun x => V.ref x.1)) ∧ (∀ x ∈ te.map tP, H x.1 = some x.2) ∧ Good (te.map (·.2)) ∧
  ∀ H' p (ks : List Str) (rs : List (Addr × List Str)), ks.Perm ((te.map (·.2)).map (·.1)) → sortedS ks = true → rs.map (·.2) = ks.filterMap (ringAt (toOf (te.map (·.2)))) → H p = none → H' p = some (.lst (rs.map fun x => V.ref x.1)) → (∀ x ∈ rs.map tR, H x.1 = none ∧ H' x.1 = some x.2) → Kp [] H H' → Q (.ref p) H'
theorem ok__law_rings {f : Addr} {fd : FuncData} (F : Fun K "_law_rings" "_law_rings" s_law_rings f fd) (B : Blt mg) : FnOk P w K mg base CX0 1 f fd P_law_rings spLRings := by
  refine F.ok sc_law_rings (fun vs H Q E h => by obtain ⟨a, te, rfl, _⟩ := h; rfl) (fun cdv A outer s0 H vs Q E hr h => ?_)
  obtain ⟨a, te, rfl, ha, hte, hg, q⟩ := h
  refine ⟨_, pss_cons (ps_set (i := 1) sc_law_rings.nd rfl (Or.inl rfl) (pe_callTy (call_dictP rfl) (by rfl) B.dict (by decide +kernel) (pa_cons (pv 0) pa_nil)))
  (pss_cons (ps_set (i := 2) sc_law_rings.nd rfl (Or.inl rfl) (pe_lst pa_nil))
  (pss_cons (ps_for PassesOwn.never rfl (pi_list (pe_callB (call_sortedD rfl) (by rfl) B.sorted (by decide +kernel) (pa_cons (pv 1) pa_nil))) (pg_name (i := 3) sc_law_rings.nd rfl (Or.inl rfl))
   (pss_cons (ps_set (i := 4) sc_law_rings.nd rfl (Or.inl rfl) (pe_lst (pa_cons (pv 3) pa_nil)))
  (pss_cons (ps_while PassesOwn.never (PW.pt (pw_and (pt_cmpR op_notN (pe_dget1 (hu_of hr) (pv 1) (pe_ix ix_list (pv 4) (pe_un un_neg pe_int) (fun _ _ => rfl)) ⟨by rfl, by rfl, by rfl, by rfl⟩) pe_non (nomark _)) (pw_and1 (pt_cmpR op_notIn_seq (pe_dget (hu_of hr) (pv 1) (pe_ix ix_list (pv 4) (pe_un un_neg pe_int) (fun _ _ => rfl)) (fun _ _ => rfl)) (pv 4) (by rfl))))) (pss_one (ps_expr (pe_bm PySem.F.plainAttrs_list PySem.F.slot_list_append PySem.F.type_list_append mt_append (pv 4) (pa_cons (pe_dget (hu_of hr) (pv 1) (pe_ix ix_list (pv 4) (pe_un un_neg pe_int) (fun _ _ => rfl)) (fun _ _ => rfl)) pa_nil)))))
  (pss_one (ps_if (PW.pt (pw_and (pt_cmpR op_eq (pe_dget1 (hu_of hr) (pv 1) (pe_ix ix_list (pv 4) (pe_un un_neg pe_int) (fun _ _ => rfl)) ⟨by rfl, by rfl, by rfl, by rfl⟩) (pv 3) (nomark _)) (pw_and (pt_cmpR op_gt (pe_callB call_len_seq (by rfl) B.len (by decide +kernel) (pa_cons (pv 4) pa_nil)) pe_int (nomark _)) (pw_and1 (pt_cmpR op_eq (pe_callB (cr_minS rfl) (by rfl) B.min (by decide +kernel) (pa_cons (pv 4) pa_nil)) (pv 3) (nomark _)))))) (pss_one (ps_expr (pe_bm PySem.F.plainAttrs_list PySem.F.slot_list_append PySem.F.type_list_append mt_append (pv 2) (pa_cons (pe_callTy call_tuple_of (by rfl) B.tuple (by decide +kernel) (pa_cons (pv 4) pa_nil)) pa_nil))))
   (pss_nil))))))
  (pss_one (ps_ret (pv 2))))), ?_⟩
  have A := At.nil H
  walk_at "rd"
  refine ⟨a, te.map (·.1), dko (te.map (·.2)), rfl, ?_, dict_pairs hte, fun d hd => ?_⟩
  · rw [List.map_map]; exact .inl (.inl ha)
  rw [dko_merge hg.oldsNd]
  refine A.u1 hd fun H1 A1 => ?_
  walk_at "rd"
  refine ⟨szl, fun pf hpf => A1.u2 hpf fun H2 A2 => ?_⟩
  walk_at "rd"
  refine ⟨d, _, (te.map (·.2)).map (·.1), rfl, .inl (A2.get 0 rfl), dko_keys _, by rw [List.length_map]; exact hg.len, fun ks p2 hks hso hp2 => ?_⟩
  have A3 := A2.snoc hp2 (.lst (ks.map V.str))
  revert A3
  generalize upd H2 p2 (.lst (ks.map V.str)) = H3
  intro A3
  have hkl : ks.length < 64 := by rw [hks.length_eq, List.length_map]; exact hg.len
  generalize hprs : te.map (·.2) = prs at *
  have hfl : (prs.filterMap (·.2)).length < 64 := by have := List.length_filterMap_le (fun x : Str × Option Str => x.2) prs; have := hg.len; omega
  refine ⟨p2, rfl, ⟨_, A3.lst 2 rfl⟩, ?_⟩
  refine forI (walk_list (xs := ks.map V.str)) (fun i σ H' => ∃ (rs : List (Addr × List Str)) (y3 y4 : Option V), σ = [some (.ref a), some (.ref d), some (.ref pf), y3, y4] ∧ rs.map (·.2) = (ks.take i).filterMap (ringAt (toOf prs)) ∧
      At [] H H' [(d, .dK (dko prs)), (pf, .lst (rs.map fun x => V.ref x.1)), (p2, .lst (ks.map V.str))] (rs.map tR))
    ⟨[], none, none, rfl, rfl, A3⟩ (fun i σ H' _ ⟨_, _, _, _, _, A⟩ => A.lst 2 rfl) ?_ ?_
  · rintro i x σ H4 H4' hi ⟨rs, y3, y4, rfl, hrs, A4⟩ ⟨rfl, hx⟩
    have hi' : i < ks.length := by rw [List.length_map] at hi; exact hi
    have ex : x = .str ks[i] := by
      rw [List.getElem?_map, List.getElem?_eq_getElem hi'] at hx
      exact (Option.some.inj hx).symm
    subst ex
    have htk : ks.take (i + 1) = ks.take i ++ [ks[i]] := by rw [List.take_add_one, List.getElem?_eq_getElem hi']; rfl
    have hzk : ks[i] ∈ prs.map (·.1) := hks.mem_iff.mp (List.getElem_mem hi')
    generalize ks[i] = z at *
    walk_at "rd"
    refine ⟨szl, fun pw hpw => A4.u1 hpw fun H5 A5 => ?_⟩
    walk_at "rd"
    refine rd_whileX (fun σ H' => ∃ (wk : List Str) (b : Str), σ = [some (.ref a), some (.ref d), some (.ref pf), some (.str z), some (.ref pw)] ∧ Run (toOf prs) z wk ∧ wk.getLast? = some b ∧ (toOf prs b = none ∨ ∃ y ∈ wk, toOf prs b = some y) ∧ wk.length < 200 ∧
        At [] H H' [(d, .dK (dko prs)), (pf, .lst (rs.map fun x => V.ref x.1)), (p2, .lst (ks.map V.str)), (pw, .lst (wk.map V.str))] (rs.map tR))
      (fun m σ H' => ∃ (wk : List Str) (b : Str), σ = [some (.ref a), some (.ref d), some (.ref pf), some (.str z), some (.ref pw)] ∧ Run (toOf prs) z wk ∧ wk.getLast? = some b ∧ (∀ x ∈ wk, x ∈ prs.map (·.1) ++ prs.filterMap (·.2)) ∧ m + wk.length = (prs.map (·.1) ++ prs.filterMap (·.2)).length ∧
        At [] H H' [(d, .dK (dko prs)), (pf, .lst (rs.map fun x => V.ref x.1)), (p2, .lst (ks.map V.str)), (pw, .lst (wk.map V.str))] (rs.map tR))
      ((prs.map (·.1) ++ prs.filterMap (·.2)).length - 1) ⟨[z], z, rfl, Run.one, rfl, by intro x hx; rw [List.mem_singleton] at hx; subst hx; exact List.mem_append_left _ hzk, by have := List.length_pos_of_mem hzk; rw [List.length_append, List.length_singleton]; omega, A5⟩ ?_ ?_
    · rintro σ H6 ⟨wk, b, rfl, hr, hb, hst, hl, A6⟩
      have hno : (¬ ∃ m, IsRing (toOf prs) z m) → rs.map (·.2) = (ks.take (i + 1)).filterMap (ringAt (toOf prs)) := by
        intro h
        rw [htk, List.filterMap_append, hrs, show List.filterMap (ringAt (toOf prs)) [z] = [] by rw [List.filterMap_cons_none (ringAt_none h)]; rfl, List.append_nil]
      have LR := law_ring (toOf_inj hg) hr hb hst
      have A7 := A6.sel (L' := [(d, .dK (dko prs)), (pf, .lst (rs.map fun x => V.ref x.1)), (p2, .lst (ks.map V.str))]) (by simp) (by walk_at "sub")
      walk_at "rd"
      refine ⟨d, rfl, .inl ⟨_, .inl (A6.get 0 rfl)⟩, ?_⟩
      walk_at "rd"
      refine rd_ixL (A6.lst 3 rfl) (atI_last hb) ?_
      refine ⟨_, DGet.k (k := Sum.inr b) (A6.get 0 rfl), ?_⟩
      rw [toOf_get]
      walk_at "rd"
      refine rd_eq (by cases toOf prs b <;> rfl) (rd_bl ?_)
      refine rd_ite (fun e => ?_) (fun e => ?_)
      · have e : toOf prs b = some z := by
          cases h : toOf prs b with
          | none => rw [h] at e; cases e
          | some y => rw [h] at e; exact congrArg some (V.str.inj e)
        walk_at "rd"
        refine ⟨pw, _, rfl, .inl (A6.lst 3 rfl), ?_⟩
        rw [List.length_map]
        walk_at "rd"
        refine rd_ite (fun hl' => ?_) (fun hl' => ?_)
        · have hl' : 1 < wk.length := by omega
          walk_at "rd"
          refine ⟨pw, wk, rfl, A6.lst 3 rfl, by omega, fun mn hmn hle => ?_⟩
          walk_at "rd"
          refine rd_ite (fun em => ?_) (fun em => ?_)
          · have em : mn = z := V.str.inj em
            subst em
            have g : IsRing (toOf prs) mn wk := ⟨⟨hr, b, hb, e⟩, hl', hle⟩
            walk_at "rd"
            refine ⟨.inl ⟨rfl, _, A6.lst 1 rfl⟩, ?_⟩
            walk_at "rd"
            refine ⟨pw, _, rfl, .inl ⟨A6.lst 3 rfl, fun pt hpt => A6.t2 hpt fun H8 A8 => ?_⟩⟩
            have hrl : rs.length ≤ 64 := by
              have := congrArg List.length hrs
              rw [List.length_map] at this
              have h2 := List.length_filterMap_le (ringAt (toOf prs)) (ks.take i)
              rw [List.length_take] at h2
              omega
            refine ⟨pf, _, _, rfl, rfl, A8.get 1 rfl, by rw [List.length_map]; exact szn' (by omega), ?_⟩
            have A9 := (A8.set 1 rfl (.lst ((rs.map fun x => V.ref x.1) ++ [.ref pt]))).sel (L' := [(d, .dK (dko prs)), (pf, .lst ((rs.map fun x => V.ref x.1) ++ [.ref pt])), (p2, .lst (ks.map V.str))]) (by simp) (by walk_at "sub")
            refine ⟨rs ++ [(pt, wk)], _, _, rfl, ?_, ?_⟩
            · rw [List.map_append, htk, List.filterMap_append, hrs, show List.filterMap (ringAt (toOf prs)) [mn] = [wk] by rw [List.filterMap_cons_some (ringAt_some g)]; rfl]; rfl
            · rw [List.map_append, List.map_append]; exact A9
          · refine ⟨rs, _, _, rfl, hno ?_, A7⟩
            intro h
            have h1 := (LR.mp h).2.2 mn hmn
            exact em (congrArg V.str (str_ext' (List.le_antisymm (hle z hr.mem) h1)))
        · refine rd_F ?_
          refine ⟨rs, _, _, rfl, hno ?_, A7⟩
          intro h
          have := (LR.mp h).2.1
          omega
      · refine rd_F ?_
        refine ⟨rs, _, _, rfl, hno ?_, A7⟩
        intro h
        rw [(LR.mp h).1] at e
        exact e rfl
    · rintro hx m σ H6 ⟨wk, b, rfl, hr, hb, hsub, hm, A6⟩
      have hUl : (prs.map (·.1) ++ prs.filterMap (·.2)).length < 128 := by rw [List.length_append, List.length_map]; have := hg.len; omega
      walk_at "rd"
      refine ⟨d, rfl, .inl ⟨_, .inl (A6.get 0 rfl)⟩, ?_⟩
      walk_at "rd"
      refine rd_ixL (A6.lst 3 rfl) (atI_last hb) ?_
      refine ⟨_, DGet.k (k := Sum.inr b) (A6.get 0 rfl), ?_⟩
      rw [toOf_get]
      refine ⟨rfl, rd_bl ?_⟩
      cases e : toOf prs b with
      | none =>
        refine rd_iteN (fun h => absurd rfl h) (fun _ => rd_F ?_)
        exact hx _ _ ⟨wk, b, rfl, hr, hb, .inl e, by omega, A6⟩
      | some y =>
        have hbk : b ∈ prs.map (·.1) := toOf_key b y e
        refine rd_iteN (fun _ => ?_) (fun h => by cases h)
        walk_at "rd"
        refine rd_ixL (A6.lst 3 rfl) (atI_last hb) ?_
        refine ⟨d, ov (toOf prs b), rfl, ?_, ?_⟩
        · rw [← toOf_val hbk]; exact DGet.k (k := Sum.inr b) (A6.get 0 rfl)
        rw [e]
        walk_at "rd"
        refine ⟨pw, _, rfl, .inl (A6.lst 3 rfl), rfl, flat_strs wk, rd_bl ?_⟩
        rw [if_pos rfl]
        show if (!inV (.str y) (wk.map V.str)) = true then _ else _
        rw [inV_strs]
        refine rd_iteN (fun hyw => ?_) (fun hyw => ?_)
        · have hr' := hr.snoc hb e hyw
          have hsub' : ∀ x ∈ wk ++ [y], x ∈ prs.map (·.1) ++ prs.filterMap (·.2) := fun x hx => by
            rcases List.mem_append.mp hx with hx | hx
            · exact hsub x hx
            · rw [List.mem_singleton] at hx
              subst hx
              exact List.mem_append_right _ (List.mem_filterMap.mpr ⟨_, toOf_some e, rfl⟩)
          have hlen3 : (wk ++ [y]).length ≤ (prs.map (·.1) ++ prs.filterMap (·.2)).length := List.Nodup.length_le_of_subset hr'.nd fun x hx => hsub' x hx
          have e3 : (wk ++ [y]).length = wk.length + 1 := by rw [List.length_append]; rfl
          refine ⟨fun σ' H' => ∃ m', m' < m ∧ ∃ (wk : List Str) (b : Str), σ' = [some (.ref a), some (.ref d), some (.ref pf), some (.str z), some (.ref pw)] ∧ Run (toOf prs) z wk ∧ wk.getLast? = some b ∧ (∀ x ∈ wk, x ∈ prs.map (·.1) ++ prs.filterMap (·.2)) ∧ m' + wk.length = (prs.map (·.1) ++ prs.filterMap (·.2)).length ∧
            At [] H H' [(d, .dK (dko prs)), (pf, .lst (rs.map fun x => V.ref x.1)), (p2, .lst (ks.map V.str)), (pw, .lst (wk.map V.str))] (rs.map tR), fun σ' H' h => h, ?_⟩
          walk_at "rd"
          refine ⟨.inl ⟨rfl, _, A6.lst 3 rfl⟩, ?_⟩
          walk_at "rd"
          refine rd_ixL (A6.lst 3 rfl) (atI_last hb) ?_
          refine ⟨d, ov (toOf prs b), rfl, ?_, ?_⟩
          · rw [← toOf_val hbk]; exact DGet.k (k := Sum.inr b) (A6.get 0 rfl)
          rw [e]
          walk_at "rd"
          have A7 := A6.set 3 rfl (.lst (wk.map V.str ++ [.str y]))
          refine ⟨pw, _, _, rfl, rfl, A6.get 3 rfl, by rw [List.length_map]; exact szn' (by omega), ?_⟩
          refine ⟨m - 1, by omega, wk ++ [y], y, rfl, hr', by rw [List.getLast?_append]; rfl, hsub', by omega, ?_⟩
          rw [List.map_append]; exact A7
        · exact hx _ _ ⟨wk, b, rfl, hr, hb, .inr ⟨y, hyw, e⟩, by omega, A6⟩
  · rintro σ H4 ⟨rs, y3, y4, rfl, hrs, A4⟩
    rw [List.length_map, List.take_length] at hrs
    walk_at "rd"
    exact q _ pf ks rs hks hso hrs (A4.new0 1 rfl (by simp)) (A4.get 1 rfl) (fun x hx => ⟨A4.tn x hx, A4.tm x hx⟩) A4.keep
end
end Nn

namespace Nn
open PySem PySem.Spec PyProof.Rows L2
local macro_rules | `(tactic| walk_at "rd1") => `(tactic| first
  | with_reducible refine' rd_c ?_
  | ((with_reducible refine' rd_var ?h ?_); (case h => rfl))
  | with_reducible refine' rd_op ?_
  | with_reducible refine' rd_I0 ?_
  | with_reducible refine' rd_seq ?_
  | ((with_reducible refine' rd_mod ?h ?_); (case h => decide))
  | ((with_reducible refine' rd_fdiv ?h ?_); (case h => exact ⟨by decide, by decide⟩))
  | ((with_reducible refine' rd_pow ?h ?_); (case h => exact ⟨by decide, by decide, by decide⟩))
  | ((with_reducible refine' rd_mul ?h ?_); (case h => first | exact Or.inl (by decide) | exact Or.inr (by decide)))
  | with_reducible refine' rd_set ?_
  | with_reducible refine' rd_asg ?_
  | with_reducible refine' rd_cons ?_
  | with_reducible refine' rd_nil ?_
  | with_reducible refine' rd_call ?_
  | with_reducible refine' rd_cb ?_
  | with_reducible refine' rd_if ?_
  | with_reducible refine' rd_test ?_
  | with_reducible refine' rd_B ?_
  | with_reducible refine' rd_bl ?_
  | ((with_reducible refine' rd_eq ?h ?_); (case h => rfl))
  | ((with_reducible refine' rd_ne ?h ?_); (case h => rfl))
  | with_reducible refine' rd_not ?_
  | with_reducible refine' rd_and ?_
  | with_reducible refine' rd_or ?_
  | with_reducible refine' rd_notV ?_
  | with_reducible refine' rd_chain ?_
  | with_reducible refine' rd_ret ?_
  | with_reducible refine' rd_drop ?_
  | with_reducible refine' rd_next' ?_
  | with_reducible refine' rd_lst ?_
  | with_reducible refine' rd_tup ?_
  | with_reducible refine' rd_lc ?_
  | with_reducible refine' rd_rng1 ?_
  | with_reducible refine' rd_istr ?_
  | with_reducible refine' rd_ilst ?_
  | with_reducible refine' rd_ienum ?_
  | with_reducible refine' rd_bm0 ?_
  | with_reducible refine' rd_bm ?_
  | with_reducible refine' rd_m1 ?_
  | with_reducible refine' rd_sl ?_
  | with_reducible refine' rd_po0 ?_
  | with_reducible refine' rd_po1 ?_
  | with_reducible refine' rd_in ?_
  | with_reducible refine' rd_sub ?_
  | with_reducible refine' rd_ifE ?_
  | with_reducible refine' rd_un ?_
  | with_reducible refine' rd_U ?_
  | with_reducible refine' rd_brk ?_
  | with_reducible refine' rd_cont ?_
  | with_reducible refine' rd_yes ?_
  | with_reducible refine' rd_T ?_
  | with_reducible refine' rd_F ?_
  | with_reducible refine' rd_nT ?_
  | with_reducible refine' rd_nF ?_
  | with_reducible refine' rd_dni ?_
  | with_reducible refine' rd_di ?_
  | with_reducible refine' rd_dget ?_
  | with_reducible refine' rd_dget1 ?_
  | with_reducible refine' rd_dget2 ?_
  | with_reducible refine' rd_dput ?_
  | with_reducible refine' rd_dnew ?_
  | with_reducible refine' rd_ikeys ?_
  | with_reducible refine' rd_gn ?_
  | with_reducible refine' rd_for ?_
  | with_reducible refine' rd_make ?_
  | with_reducible refine' rd_meth ?_
  | with_reducible refine' rd_fld ?_
  | with_reducible refine' rd_sfld ?_
  | with_reducible refine' rd_dc ?_
  | with_reducible refine' rd_items ?_
  | with_reducible refine' rd_sadd ?_
  | with_reducible refine' rd_ivals ?_)
local macro_rules | `(tactic| walk_at "sub") => `(tactic| repeat' (first | exact List.nil_sublist _ | exact List.Sublist.refl _ | apply List.Sublist.cons₂ | apply List.Sublist.cons))
local macro_rules | `(tactic| walk_at "rd") => `(tactic| repeat walk_at "rd1")

theorem pi_list' {X : Cx} {K : PySem.W.Frag} {tg e : Expr} {te : TE} (h : X.K = K) (he : PE X e te) : PI X tg e (iList K te) := h ▸ pi_list he
/-! ### rings as data -/
theorem ringAt_spec {f : Str → Option Str} {z : Str} {l : List Str} (h : ringAt f z = some l) : IsRing f z l := by
  unfold ringAt at h
  split at h
  · rename_i e
    cases h
    exact e.choose_spec
  · cases h
theorem IsRing.key {prs : List (Str × Option Str)} {z : Str} {l : List Str} (h : IsRing (toOf prs) z l) : ∀ x ∈ l, x ∈ prs.map (·.1) := fun x hx => by
  obtain ⟨y, _, e⟩ := h.toCyc.next hx
  exact toOf_key x y e
def dR (l : List Str) : PyData := .tuple (l.map PyData.str)
theorem dpa_rings {K : PySem.W.Frag} {H : Hp} {rs : List (Addr × List Str)} (h : ∀ x ∈ rs.map tR, H x.1 = some x.2) : DpAll K H (rs.map fun x => V.ref x.1) ((rs.map (·.2)).map dR) := by
  rw [List.map_map]
  exact dpa_of fun x hx => .tup (.inl (.inl (h _ (List.mem_map_of_mem (f := tR) hx)))) (dpa_strs _)
theorem sm_rings {prs : List (Str × Option Str)} {ks : List Str} (g : Good prs) (hk : ks.length < 64) : Sm 2 (.list ((ks.filterMap (ringAt (toOf prs))).map dR)) := by
  refine sm_list ?_ fun e he => ?_
  · rw [List.length_map]; have := List.length_filterMap_le (ringAt (toOf prs)) ks; omega
  · obtain ⟨l, hl, rfl⟩ := List.mem_map.mp he
    obtain ⟨z, _, e⟩ := List.mem_filterMap.mp hl
    have r := ringAt_spec e
    refine ⟨?_, fun d hd => ?_⟩
    · rw [List.length_map]
      have := List.Nodup.length_le_of_subset r.nd fun x hx => r.key x hx
      rw [List.length_map] at this
      have := g.len
      omega
    · obtain ⟨x, hx, rfl⟩ := List.mem_map.mp hd
      obtain ⟨e, he, rfl⟩ := List.mem_map.mp (r.key x hx)
      exact sm_str (nameOk_ok (g.old e he))
theorem tR_ne {H : Hp} {p : Addr} {xs : List V} {rs : List (Addr × List Str)} (hp : H p = some (.lst xs)) (h : ∀ x ∈ rs.map tR, H x.1 = some x.2) : ∀ x ∈ rs.map tR, x.1 ≠ p := by
  intro x hx e
  have h1 := h x hx
  obtain ⟨y, hy, rfl⟩ := List.mem_map.mp hx
  rw [e, hp] at h1
  cases h1
section
variable {P : Program} {w : World} {K : PySem.W.Frag} {mg : Str → Option Value} {base : Heap}
theorem inV_mix (n : Str) (te : List (Addr × (Str × Option Str))) : inV (.str n) (te.map (fun x => ov x.2.2) ++ te.map fun x => V.str x.2.1) = decide (n ∈ (te.map (·.2)).filterMap (·.2) ∨ n ∈ (te.map (·.2)).map (·.1)) := by
  have h1 : inV (.str n) (te.map fun x => ov x.2.2) = decide (n ∈ (te.map (·.2)).filterMap (·.2)) := by
    unfold inV
    rw [List.any_map]
    induction te with
    | nil => rfl
    | cons e r ih =>
      rw [List.any_cons, ih]
      show (eqV (ov e.2.2) (.str n) || _) = _
      rw [List.map_cons]
      cases h : e.2.2 with
      | none => rw [List.filterMap_cons_none h]; rfl
      | some y =>
        rw [List.filterMap_cons_some h]
        show (eqV (.str y) (.str n) || _) = _
        rw [eqV_str, ← Bool.decide_or]
        exact decide_eq_decide.mpr (by rw [List.mem_cons, eq_comm (a := y)])
  have h2 : inV (.str n) (te.map fun x => V.str x.2.1) = decide (n ∈ (te.map (·.2)).map (·.1)) := by
    rw [← inV_strs, List.map_map, List.map_map]; rfl
  have h3 : inV (.str n) (te.map (fun x => ov x.2.2) ++ te.map fun x => V.str x.2.1) = (inV (.str n) (te.map fun x => ov x.2.2) || inV (.str n) (te.map fun x => V.str x.2.1)) := List.any_append
  rw [h3, h1, h2, ← Bool.decide_or]
theorem flat_mix (te : List (Addr × (Str × Option Str))) : (te.map (fun x => ov x.2.2) ++ te.map fun x => V.str x.2.1).all flatV = true := by
  rw [List.all_append, Bool.and_eq_true, List.all_map, List.all_map]
  refine ⟨List.all_eq_true.mpr fun x _ => ?_, List.all_eq_true.mpr fun _ _ => rfl⟩
  show flatV (ov x.2.2) = true
  cases x.2.2 <;> rfl
theorem good_more {prs xe : List (Str × Option Str)} (g : Good prs) (hl : prs.length ≤ 10) (hx : ∀ e ∈ xe, e.2 = some e.1 ∧ e.1 ∉ prs.filterMap (·.2) ∧ e.1 ∉ prs.map (·.1)) (ok : ∀ e ∈ xe, nameOk e.1 = true) (nd : (xe.map (·.1)).Nodup) (h2 : xe.length ≤ 2) : Good (prs ++ xe) := by
  have fm : xe.filterMap (·.2) = xe.map (·.1) := by
    clear nd h2 ok
    induction xe with
    | nil => rfl
    | cons e r ih => rw [List.filterMap_cons_some (hx e List.mem_cons_self).1, List.map_cons, ih fun e he => hx e (List.mem_cons_of_mem _ he)]
  refine ⟨fun e he => ?_, fun e he z hz => ?_, ?_, ?_, by rw [List.length_append]; omega⟩
  · rcases List.mem_append.mp he with he | he
    · exact g.old e he
    · exact ok e he
  · rcases List.mem_append.mp he with he | he
    · exact g.new e he z hz
    · rw [(hx e he).1] at hz; cases hz; exact ok e he
  · rw [List.map_append, List.nodup_append]
    refine ⟨g.oldsNd, nd, fun a ha b hb q => ?_⟩
    obtain ⟨e, he, rfl⟩ := List.mem_map.mp hb
    exact (hx e he).2.2 (q ▸ ha)
  · rw [List.filterMap_append, fm, List.nodup_append]
    refine ⟨g.newsNd, nd, fun a ha b hb q => ?_⟩
    obtain ⟨e, he, rfl⟩ := List.mem_map.mp hb
    exact (hx e he).2.1 (q ▸ ha)
structure CLaw (P : Program) (w : World) (K : PySem.W.Frag) (mg : Str → Option Value) (base : Heap) (Cp : Addr) : Prop where
  _law_state : Cl P w K mg base 1 "_law_state" spState
  _law_next : Cl P w K mg base 1 "_law_next" spNext
  _law_pool : Cl P w K mg base 2 "_law_pool" spPool
  _law_things : Cl P w K mg base 3 "_law_things" (spThings K)
  _law_pairs : Cl P w K mg base 3 "_law_pairs" (spPairs K)
  _law_rings : Cl P w K mg base 1 "_law_rings" spLRings
  _law_alike : Cl P w K mg base 3 "_law_alike" (spAlike K 2)
structure MLaw (P : Program) (w : World) (K : PySem.W.Frag) (mg : Str → Option Value) (base : Heap) (Cp : Addr) : Prop where
  Plan : Mr P w K mg base 3 "Plan" Cp (spInit Cp)
  Plan_rings : Mt P w K mg base 1 Cp "rings" (spRings Cp)
def spLaw (K : PySem.W.Frag) : Sp := fun vs H Q _ => ∃ (a : Addr) (ns : List Int), vs = [.ref a] ∧ SqL K H a (ns.map V.int) ∧ ns.length ≤ 63 ∧ ∀ H', Q (.bl true) H'
theorem ok_law {f : Addr} {fd : FuncData} (F : Fun K "law" "law" slaw f fd) (B : Blt mg) {Cp : Addr} (C : CLaw P w K mg base Cp) (M : MLaw P w K mg base Cp) : FnOk P w K mg base CX0 5 f fd Plaw (spLaw K) := by
  refine F.ok sclaw (fun vs H Q E h => by obtain ⟨a, ns, rfl, _⟩ := h; rfl) (fun cdv A outer s0 H vs Q E hr h => ?_)
  obtain ⟨a, ns, rfl, hS, hlen, q⟩ := h
  refine ⟨_, pss_cons (ps_for PassesOwn.never rfl (pi_enum (by rfl) B.enumerate (pa_cons (pv 0) pa_nil)) (pg_tup rfl (pgs_cons (pg_name (i := 1) sclaw.nd rfl (Or.inl rfl)) (pgs_cons (pg_name (i := 2) sclaw.nd rfl (Or.inl rfl)) pgs_nil)))
   (pss_cons (ps_set (i := 3) sclaw.nd rfl (Or.inl rfl) (pe_cl C._law_state hr (by omega) (by rfl) (pa_cons (pv 2) (pa_cons (pv 1) pa_nil))))
  (pss_cons (ps_set (i := 4) sclaw.nd rfl (Or.inl rfl) (pe_cl C._law_pool hr (by omega) (by rfl) (pa_cons (pv 3) pa_nil)))
  (pss_cons (ps_set (i := 5) sclaw.nd rfl (Or.inr rfl) (pe_cl C._law_pairs hr (by omega) (by rfl) (pa_cons (pv 3) (pa_cons (pv 4) (pa_cons (pe_cl C._law_things hr (by omega) (by rfl) (pa_cons (pv 3) (pa_cons (pv 4) pa_nil))) pa_nil)))))
  (Evl.pss_cut (ps_if (pt_cmpR op_eq (pe_cl C._law_next hr (by omega) (by rfl) (pa_cons (pv 3) (pa_cons pe_int pa_nil))) pe_int (nomark _)) (pss_cons (ps_set (i := 6) sclaw.nd rfl (Or.inr rfl) (pe_lc (own := [("_law_old", 11), ("_law_new", 12)]) rfl sclaw.nd (pi_list (pv 5)) (blkOk_by (N := Nlaw) (sc := defScope slaw) (by decide +kernel)) (fun _ _ _ _ _ => (pg_tup' (n := 2) (K := K) rfl rfl (pgs_cons (pg_name (i := 11) sclaw.nd rfl (Or.inl rfl)) (pgs_cons (pg_name (i := 12) sclaw.nd rfl (Or.inl rfl)) pgs_nil)))) (fun _ _ _ _ _ => pts_nil) (fun _ _ _ _ _ => (pv 12))))
  (pss_one (ps_set (i := 5) sclaw.nd rfl (Or.inr rfl) (pe_op op_cat (pv 5) (pe_lc (own := [("_law_name", 13)]) rfl sclaw.nd (pi_list (pe_slice sl_list (pv 4) (po_some pe_int) (po_some pe_int))) (blkOk_by (N := Nlaw) (sc := defScope slaw) (by decide +kernel)) (fun _ _ _ _ _ => (pg_name (i := 13) sclaw.nd rfl (Or.inl rfl))) (fun _ _ _ _ _ => pts_one (pt_cmpR (op_notIn_seq' (K := K) rfl) (pv 13) (pe_op op_cat (pv 6) (pe_lc (own := [("_law_old", 11), ("_law_new", 12)]) rfl sclaw.nd (pi_list' (K := K) rfl (pv 5)) (blkOk_by (by rfl)) (fun _ _ _ _ _ => (pg_tup' (n := 2) (K := K) rfl rfl (pgs_cons (pg_name (i := 11) sclaw.nd rfl (Or.inl rfl)) (pgs_cons (pg_name (i := 12) sclaw.nd rfl (Or.inl rfl)) pgs_nil)))) (fun _ _ _ _ _ => pts_nil) (fun _ _ _ _ _ => (pv 11)))) (by rfl))) (fun _ _ _ _ _ => (pe_tup (pa_cons (pv 13) (pa_cons (pv 13) pa_nil)))))))))
   (pss_nil))
  (pss_cons (ps_set (i := 7) sclaw.nd rfl (Or.inl rfl) (pe_mr M.Plan hr (by omega) (by rfl) (pa_cons (pv 5) pa_nil)))
  (pss_cons (ps_set (i := 8) sclaw.nd rfl (Or.inl rfl) (pe_cl C._law_rings hr (by omega) (by rfl) (pa_cons (pv 5) pa_nil)))
  (pss_one (ps_for PassesOwn.never rfl (pi_range1 (by rfl) B.range (pa_cons pe_int pa_nil)) (pg_name (i := 9) sclaw.nd rfl (Or.inl rfl))
   (pss_cons (ps_set (i := 10) sclaw.nd rfl (Or.inl rfl) (pe_me0 M.Plan_rings hr (by omega) (pv 7)))
  (pss_cons (ps_if (pt_not (pt_val (pe_cl C._law_alike hr (by omega) (by rfl) (pa_cons (pv 10) (pa_cons (pv 8) pa_nil))))) (pss_one (ps_ret pe_bl))
   (pss_nil))
  (pss_cons (ps_expr (pe_bm PySem.F.plainAttrs_list PySem.F.slot_list_append PySem.F.type_list_append mt_append (pv 10) (pa_cons (pe_tup (pa_cons pe_str (pa_cons pe_str pa_nil))) pa_nil)))
  (pss_one (ps_expr (pe_bm0 PySem.F.plainAttrs_list PySem.F.slot_list_reverse PySem.F.type_list_reverse mt_reverse (pv 10))))))))))))))))
  (pss_one (ps_ret pe_bl)), ?_⟩
  have A := At.nil H
  walk_at "rd"
  refine ⟨a, _, rfl, hS, ?_⟩
  refine forI (walk_enum (xs := ns.map V.int)) (fun _ σ H' => ∃ (y1 y2 y3 y4 y5 y6 y7 y8 y9 y10 : Option V), σ = [some (.ref a), y1, y2, y3, y4, y5, y6, y7, y8, y9, y10, none, none, none] ∧ At [] H H' [] [])
    ⟨none, none, none, none, none, none, none, none, none, none, rfl, A⟩ (fun _ _ _ _ ⟨_, _, _, _, _, _, _, _, _, _, _, A1⟩ => A1.sq hS (by simp)) ?_ ?_
  · rintro i x σ H1 H2 hi ⟨y1, y2, y3, y4, y5, y6, y7, y8, y9, y10, rfl, A1⟩ ⟨T0, v1, x, rfl, hT0, rfl, e1, hi'⟩
    cases Option.some.inj e1
    have A2 := A1.skip (Sk.of (o := .tup [.int (i : Nat), x]) hT0)
    refine ⟨T0, [.int (i : Nat), x], rfl, .inl (.inl upd_same), rfl, _, _, rfl, _, _, rfl, rfl, ?_⟩
    revert A2
    generalize upd H1 T0 (.tup [.int (i : Nat), x]) = H2
    intro A2
    clear A1
    obtain ⟨cell, rfl⟩ : ∃ c, x = V.int c := by
      have hi' : (ns.map V.int)[i]? = some x := hi'
      rw [List.getElem?_map] at hi'
      obtain ⟨c, _, e⟩ := Option.map_eq_some_iff.mp hi'
      exact ⟨c, e.symm⟩
    walk_at "rd"
    refine rd_state A2 fun s S H3 hs A3 => ?_
    walk_at "rd"
    refine rd_pool A3 0 rfl hs fun s2 z ps H4 hs2 hp A4 => ?_
    walk_at "rd"
    refine ⟨S, z, s2, ps, rfl, A4.get 0 rfl, hs2, A4.lst 1 rfl, hp, fun s3 pt td H5 hs3 ht hpt hpt' k5 hS5 => ?_⟩
    have A5 := A4.add (A4.c1 0 rfl k5 hS5) rfl hpt hpt'
    walk_at "rd"
    refine ⟨S, z, pt, s3, ps, td, rfl, A5.get 0 rfl, hs3, A5.lst 1 rfl, A5.get 2 rfl, hp, ht, fun s4 pa te H6 hs4 hpr hpa hpa' hte k6 hS6 => ?_⟩
    have A6 := (A5.addC (A5.c1 0 rfl k6 hS6) rfl hpa hpa' (te.map tP) hte (tP_ne hpa' fun x hx => (hte x hx).2)).sel (L' := [(S, .lst [.int s4]), (z, .lst (ps.map V.str)), (pa, .lst (te.map fun x => V.ref x.1))]) (by simp) (by walk_at "sub")
    have hg := good_pairs hp ht hpr
    have hl10 := hpr.len
    rw [List.length_map] at hl10
    clear A5 A4 A3 A2 hpr ht
    walk_at "rd"
    refine rd_cut (fun σ' H' => ∃ (s : Int) (te : List (Addr × (Str × Option Str))) (pa : Addr) (y6 : Option V), Sd s ∧ Good (te.map (·.2)) ∧ σ' = [some (.ref a), some (.int (i : Nat)), some (.int cell), some (.ref S), some (.ref z), some (.ref pa), y6, y7, y8, y9, y10, none, none, none] ∧
      At [] H H' [(S, .lst [.int s]), (z, .lst (ps.map V.str)), (pa, .lst (te.map fun x => V.ref x.1))] (te.map tP)) ?_ ?_
    · walk_at "rd"
      refine rd_next A6 0 rfl hs4 (by decide) fun s5 r5 H7 hs5 _ _ A7 => ?_
      walk_at "rd"
      refine rd_ite (fun _ => ?_) (fun _ => ?_)
      · walk_at "rd"
        refine ⟨pa, rfl, ⟨_, A7.lst 2 rfl⟩, fun D1 hD1 => ?_⟩
        refine lc_it (walk_list (xs := te.map fun x => V.ref x.1)) (fun i H' => At [] H H' [(S, .lst [.int s5]), (z, .lst (ps.map V.str)), (pa, .lst (te.map fun x => V.ref x.1)), (D1, .lst ((te.take i).map fun x => ov x.2.2))] (te.map tP)) (A7.snoc hD1 _) (fun i H' _ A => A.lst 2 rfl) ?_ ?_
        · rintro i x H8 H8' hi A8 ⟨rfl, hx⟩
          have hi' : i < te.length := by rw [List.length_map] at hi; exact hi
          have ex : x = .ref te[i].1 := by
            rw [List.getElem?_map, List.getElem?_eq_getElem hi'] at hx
            exact (Option.some.inj hx).symm
          subst ex
          have tm := A8.tm _ (List.mem_map_of_mem (f := tP) (List.getElem_mem hi'))
          refine ⟨te[i].1, _, rfl, .inl (.inl tm), rfl, _, _, rfl, _, _, rfl, rfl, rfl, ?_⟩
          walk_at "rd"
          have A9 := A8.set 3 rfl (.lst (((te.take i).map fun x => ov x.2.2) ++ [ov te[i].2.2]))
          refine ⟨_, A8.get 3 rfl, by rw [List.length_map, List.length_take]; exact szn' (by omega), ?_⟩
          rw [List.take_add_one, List.getElem?_eq_getElem hi', List.map_append]
          exact A9
        · intro H8 A8
          rw [List.length_map, List.take_length] at A8
          walk_at "rd"
          have ecut : cutV (ps.map V.str) (some 10) (some 12) = ((ps.drop 10).take 2).map V.str := by
            unfold cutV
            rw [List.length_map, hp.len, ← List.map_drop, ← List.map_take]
            rfl
          refine rd_slL A8 (A8.lst 1 rfl) fun pF H9 A9 => ?_
          rw [ecut] at A9
          have hnm : ∀ x ∈ (ps.drop 10).take 2, x ∈ ps := fun x hx => List.mem_of_mem_drop (List.mem_of_mem_take hx)
          have hnn : ((ps.drop 10).take 2).Nodup := hp.nd.sublist ((List.take_sublist _ _).trans (List.drop_sublist _ _))
          have hn2 : ((ps.drop 10).take 2).length ≤ 2 := List.length_take_le _ _
          generalize (ps.drop 10).take 2 = names at *
          refine ⟨pF, rfl, ⟨_, A9.lst 4 rfl⟩, fun D2 hD2 => ?_⟩
          refine lc_it (walk_list (xs := names.map V.str)) (fun i H' => ∃ xe : List (Addr × (Str × Option Str)), (∀ x ∈ xe, x.2.2 = some x.2.1 ∧ x.2.1 ∉ (te.map (·.2)).filterMap (·.2) ∧ x.2.1 ∉ (te.map (·.2)).map (·.1)) ∧ (xe.map (·.2.1)).Sublist (names.take i) ∧
            At [] H H' [(S, .lst [.int s5]), (z, .lst (ps.map V.str)), (pa, .lst (te.map fun x => V.ref x.1)), (D1, .lst (te.map fun x => ov x.2.2)), (pF, .lst (names.map V.str)), (D2, .lst (xe.map fun x => V.ref x.1))] (te.map tP ++ xe.map tP))
            ⟨[], by simp, List.nil_sublist _, by rw [show te.map tP ++ List.map tP [] = te.map tP from List.append_nil _]; exact A9.snoc hD2 _⟩ (fun i H' _ ⟨_, _, _, A⟩ => A.lst 4 rfl) ?_ ?_
          · rintro i x H10 H10' hi ⟨xe, hxe, hsl, A10⟩ ⟨rfl, hx⟩
            have hi' : i < names.length := by rw [List.length_map] at hi; exact hi
            have ex : x = .str names[i] := by
              rw [List.getElem?_map, List.getElem?_eq_getElem hi'] at hx
              exact (Option.some.inj hx).symm
            subst ex
            have htk : names.take (i + 1) = names.take i ++ [names[i]] := by rw [List.take_add_one, List.getElem?_eq_getElem hi']; rfl
            refine ⟨rfl, ?_⟩
            walk_at "rd"
            refine ⟨pa, rfl, ⟨_, A10.lst 2 rfl⟩, fun D3 hD3 => ?_⟩
            refine lc_it (walk_list (xs := te.map fun x => V.ref x.1)) (fun j H' => At [] H H' [(S, .lst [.int s5]), (z, .lst (ps.map V.str)), (pa, .lst (te.map fun x => V.ref x.1)), (D1, .lst (te.map fun x => ov x.2.2)), (pF, .lst (names.map V.str)), (D2, .lst (xe.map fun x => V.ref x.1)), (D3, .lst ((te.take j).map fun x => V.str x.2.1))] (te.map tP ++ xe.map tP)) (A10.snoc hD3 _) (fun i H' _ A => A.lst 2 rfl) ?_ ?_
            · rintro j x H11 H11' hj A11 ⟨rfl, hx⟩
              have hj' : j < te.length := by rw [List.length_map] at hj; exact hj
              have ex : x = .ref te[j].1 := by
                rw [List.getElem?_map, List.getElem?_eq_getElem hj'] at hx
                exact (Option.some.inj hx).symm
              subst ex
              have tm := A11.tm _ (List.mem_append_left _ (List.mem_map_of_mem (f := tP) (List.getElem_mem hj')))
              refine ⟨te[j].1, _, rfl, .inl (.inl tm), rfl, _, _, rfl, _, _, rfl, rfl, rfl, ?_⟩
              walk_at "rd"
              have A12 := A11.set 6 rfl (.lst (((te.take j).map fun x => V.str x.2.1) ++ [.str te[j].2.1]))
              refine ⟨_, A11.get 6 rfl, by rw [List.length_map, List.length_take]; exact szn' (by omega), ?_⟩
              rw [List.take_add_one, List.getElem?_eq_getElem hj', List.map_append]
              exact A12
            · intro H11 A11
              rw [List.length_map, List.take_length] at A11
              walk_at "rd"
              refine ⟨D1, D3, _, _, rfl, rfl, A11.get 3 rfl, A11.get 6 rfl, by rw [List.length_map, List.length_map]; exact szn (by omega), fun D4 hD4 => ?_⟩
              have A12 := A11.snoc hD4 (.lst (te.map (fun x => ov x.2.2) ++ te.map fun x => V.str x.2.1))
              refine ⟨D4, _, rfl, .inl (A12.lst 7 rfl), rfl, flat_mix te, rd_bl ?_⟩
              rw [if_pos rfl]
              show if (!inV (.str names[i]) (te.map (fun x => ov x.2.2) ++ te.map fun x => V.str x.2.1)) = true then _ else _
              rw [inV_mix]
              have A13 := A12.sel (L' := [(S, .lst [.int s5]), (z, .lst (ps.map V.str)), (pa, .lst (te.map fun x => V.ref x.1)), (D1, .lst (te.map fun x => ov x.2.2)), (pF, .lst (names.map V.str)), (D2, .lst (xe.map fun x => V.ref x.1))]) (by simp) (by walk_at "sub")
              revert A13
              generalize upd H11 D4 (.lst (te.map (fun x => ov x.2.2) ++ te.map fun x => V.str x.2.1)) = H12
              intro A13
              clear A12
              refine rd_iteN (fun hn => ?_) (fun hn => ?_)
              · walk_at "rd"
                refine ⟨szl, fun t ht => ?_⟩
                have A14 := A13.snocT ht (.tup [.str names[i], .str names[i]])
                have A15 := A14.set 5 rfl (.lst ((xe.map fun x => V.ref x.1) ++ [.ref t]))
                have hxl : xe.length ≤ 2 := by have := hsl.length_le; rw [List.length_map, List.length_take] at this; omega
                refine ⟨_, A14.get 5 rfl, by rw [List.length_map]; exact szn' (by omega), xe ++ [(t, (names[i], some names[i]))], ?_, ?_, ?_⟩
                · intro x hx
                  rcases List.mem_append.mp hx with hx | hx
                  · exact hxe x hx
                  · rw [List.mem_singleton] at hx
                    subst hx
                    exact ⟨rfl, fun h => hn (.inl h), fun h => hn (.inr h)⟩
                · rw [List.map_append, htk]; exact hsl.append (List.Sublist.refl _)
                · rw [List.map_append, List.map_append, ← List.append_assoc]; exact A15
              · exact ⟨xe, hxe, by rw [htk]; exact hsl.trans (List.sublist_append_left _ _), A13⟩
          · rintro H10 ⟨xe, hxe, hsl, A10⟩
            rw [List.length_map, List.take_length] at hsl
            walk_at "rd"
            have hxl : xe.length ≤ 2 := by have := hsl.length_le; rw [List.length_map] at this; omega
            refine ⟨pa, D2, _, _, rfl, rfl, A10.get 2 rfl, A10.get 5 rfl, by rw [List.length_map, List.length_map]; exact szn (by omega), fun D4 hD4 => ?_⟩
            have A11 := (A10.snoc hD4 (.lst ((te.map fun x => V.ref x.1) ++ xe.map fun x => V.ref x.1))).sel (L' := [(S, .lst [.int s5]), (z, .lst (ps.map V.str)), (D4, .lst ((te.map fun x => V.ref x.1) ++ xe.map fun x => V.ref x.1))]) (by simp) (by walk_at "sub")
            refine ⟨s5, te ++ xe, D4, _, hs5, ?_, rfl, ?_⟩
            · rw [List.map_append]
              refine good_more hg (by rw [List.length_map]; exact hl10) (fun e he => ?_) (fun e he => ?_) ?_ (by rw [List.length_map]; exact hxl)
              · obtain ⟨x, hx, rfl⟩ := List.mem_map.mp he
                exact hxe x hx
              · obtain ⟨x, hx, rfl⟩ := List.mem_map.mp he
                exact hp.ok _ (hnm _ (hsl.subset (List.mem_map_of_mem (f := fun x : Addr × (Str × Option Str) => x.2.1) hx)))
              · rw [List.map_map]; exact hnn.sublist hsl
            · rw [List.map_append, List.map_append]; exact A11
      · walk_at "rd"
        exact ⟨s5, te, pa, _, hs5, hg, rfl, A7⟩
    · rintro σ H7 ⟨s5, te, pa, y6, hs5, hg, rfl, A7⟩
      clear A6
      walk_at "rd"
      intro pl dx hpl hdx hne
      have A8 := (A7.snoc hdx (.own pl)).snoc (p := pl) (by rw [upd_ne hne.symm]; exact hpl) (.ins Cp dx [])
      revert A8
      generalize upd (upd H7 dx (.own pl)) pl (.ins Cp dx []) = H8
      intro A8
      refine ⟨pl, pa, dx, te, rfl, A8.get 4 rfl, A8.get 2 rfl, fun x hx => A8.tm x hx, hg, fun H9 d lv hlv hso hd k9 hpl9 hd9 => ⟨rfl, ?_⟩⟩
      have A9 := A8.add (A8.c1 4 rfl k9 hpl9) rfl hd hd9
      clear A8 A7
      walk_at "rd"
      refine ⟨pa, te, rfl, A9.get 2 rfl, fun x hx => A9.tm x hx, hg, fun H10 pr ks rs hks hkso hrs hpr hpr' htr k10 => ?_⟩
      have A10 := (A9.addB k10 hpr hpr' (rs.map tR) htr (tR_ne hpr' fun x hx => (htr x hx).2)).sel (L' := [(pl, .ins Cp dx [("_leads", .ref d)]), (d, .dK (dko lv)), (pr, .lst (rs.map fun x => V.ref x.1))]) (by simp) (by walk_at "sub")
      clear A9
      have ek : ks = lv.map (·.1) := sorted_eq hkso hso (hks.trans (hlv.symm.map _))
      have ef : toOf lv = toOf (te.map (·.2)) := funext fun y => by unfold toOf; rw [find_perm' hg.oldsNd hlv]
      have hkl : ks.length < 64 := by rw [hks.length_eq, List.length_map]; exact hg.len
      walk_at "rd"
      refine ⟨2, rfl, by decide, by decide, ?_⟩
      refine forI (walk_range (lo := 0) (n := 2)) (fun _ σ H' => ∃ (y9 y10 : Option V), σ = [some (.ref a), some (.int (i : Nat)), some (.int cell), some (.ref S), some (.ref z), some (.ref pa), y6, some (.ref pl), some (.ref pr), y9, y10, none, none, none] ∧
          At [] H H' [(pl, .ins Cp dx [("_leads", .ref d)]), (d, .dK (dko lv)), (pr, .lst (rs.map fun x => V.ref x.1))] (te.map tP ++ rs.map tR))
        ⟨_, _, rfl, A10⟩ (fun _ _ _ _ _ => trivial) ?_ ?_
      · rintro j x σ H11 H11' hj ⟨y9, y10, rfl, A11⟩ ⟨rfl, rfl⟩
        walk_at "rd"
        refine ⟨pl, dx, _, rfl, A11.get 0 rfl, rfl, ?_⟩
        walk_at "rd"
        refine ⟨pl, lv, rfl, ⟨dx, d, A11.get 0 rfl, A11.get 1 rfl⟩, hg.perm hlv, hso, fun H12 p rs2 hrs2 hp2 hp2' htr2 k12 => ?_⟩
        have A12 := A11.addB k12 hp2 hp2' (rs2.map tR) htr2 (tR_ne hp2' fun x hx => (htr2 x hx).2)
        have er : rs2.map (·.2) = rs.map (·.2) := by rw [hrs2, hrs, ek, ef]
        walk_at "rd"
        have hd1 := dpa_rings (K := K) (H := H12) (rs := rs2) fun x hx => A12.tm x (List.mem_append_right _ hx)
        have hd2 := dpa_rings (K := K) (H := H12) (rs := rs) fun x hx => A12.tm x (List.mem_append_left _ (List.mem_append_right _ hx))
        rw [er] at hd1
        have sm := sm_rings hg hkl
        rw [← hrs] at sm
        have hrl : rs2.length ≤ 64 := by
          have h1 := congrArg List.length er
          have h2 := congrArg List.length hrs
          rw [List.length_map] at h1 h2
          rw [List.length_map] at h1
          have := List.length_filterMap_le (ringAt (toOf (te.map (·.2)))) ks
          omega
        have hda : Dp K H12 (.ref p) (.list ((rs.map fun x : Addr × List Str => x.2).map dR)) := .lst (A12.lst 3 rfl) hd1
        have hdb : Dp K H12 (.ref pr) (.list ((rs.map fun x : Addr × List Str => x.2).map dR)) := .lst (A12.lst 2 rfl) hd2
        refine ⟨_, _, _, rfl, hda, hdb, sm, fun H13 k13 => ?_⟩
        have A13 := A12.c0 k13
        walk_at "rd"
        refine ⟨.inl ⟨rfl, _, A13.lst 3 rfl⟩, ?_⟩
        walk_at "rd"
        refine ⟨szl, fun pt hpt => A13.n2 hpt fun H14 A14 => ?_⟩
        walk_at "rd"
        refine ⟨p, _, _, rfl, rfl, A14.get 3 rfl, by rw [List.length_map]; exact szn' (by omega), A14.s2 3 rfl fun H15 A15 => ?_⟩
        walk_at "rd"
        refine ⟨.inl ⟨rfl, _, A15.lst 3 rfl⟩, ?_⟩
        have A16 := A15.set 3 rfl (.lst ((rs2.map fun x => V.ref x.1) ++ [V.ref pt]).reverse)
        exact ⟨p, _, rfl, rfl, A15.get 3 rfl, _, _, rfl, (A16.sel (by simp) (by walk_at "sub")).selT _ (fun x hx => List.mem_append_left _ hx)⟩
      · rintro σ H11 ⟨y9, y10, rfl, A11⟩
        exact ⟨_, _, _, _, _, _, _, _, _, _, rfl, (A11.sel (L' := []) (by simp) (List.nil_sublist _)).selT [] (by simp)⟩
  · rintro σ H1 ⟨y1, y2, y3, y4, y5, y6, y7, y8, y9, y10, rfl, A1⟩
    walk_at "rd"
    exact q _
end
end Nn

namespace Nn
open PySem PySem.Spec PyProof.Rows L2
/-! ### what the top has left, the theorem -/
theorem all_mk {l : PySem.W.OpenLaw} {w : World} {K : PySem.W.Frag} {h : Heap} {mg : Str → Option Value} {fa : Addr} (X : K.In h) (G : h.Ns mainGlobals mg) (hfa : mg "law" = some (.ref fa))
    {f0 f1 f2 f3 f4 f5 f6 f7 f8 f9 f10 f11 : Addr}
    {od0 an0 od1 an1 od2 an2 od3 an3 od4 an4 od5 an5 od6 an6 od7 an7 od8 an8 od9 an9 od10 an10 od11 an11 : Option Addr} {sl0 sl1 sl2 sl3 sl4 sl5 sl6 sl7 sl8 sl9 sl10 sl11 : Array (Option Value)} {oc0 kV0 dc0 pm0 cd0 ct0 oc1 kV1 dc1 pm1 cd1 ct1 oc2 kV2 dc2 pm2 cd2 ct2 oc3 kV3 dc3 pm3 cd3 ct3 oc4 kV4 dc4 pm4 cd4 ct4 oc5 kV5 dc5 pm5 cd5 ct5 oc6 kV6 dc6 pm6 cd6 ct6 oc7 kV7 dc7 pm7 cd7 ct7 oc8 kV8 dc8 pm8 cd8 ct8 oc9 kV9 dc9 pm9 cd9 ct9 oc10 kV10 dc10 pm10 cd10 ct10 oc11 kV11 dc11 pm11 cd11 ct11 : Value}
    {C0 mf0_0 mf0_1 : Addr} {mod0_0 mod0_1 man0_0 man0_1 : Option Addr} {msl0_0 msl0_1 : Array (Option Value)} {moc0_0 moc0_1 mkV0_0 mkV0_1 mdc0_0 mdc0_1 mpm0_0 mpm0_1 mcd0_0 mcd0_1 mct0_0 mct0_1 : Value}
    {tk0 : Tok}
    (a0 : PySem.W.nsIn K mainGlobals "is_name" = some (some (.ref f0))) (l0 : K.lookup f0 = some ⟨oc0, od0, .func (PySem.W.fnOf "is_name" "is_name" (defArgs sis_name) (defBody sis_name) (defScope sis_name) .none kV0 dc0 pm0 an0 cd0 ct0), sl0⟩) (c0 : PySem.W.codeIn K cd0 "is_name" = true) (k0 : PySem.W.keepIn K (.ref f0) = true)
    (a1 : PySem.W.nsIn K mainGlobals "check_name" = some (some (.ref f1))) (l1 : K.lookup f1 = some ⟨oc1, od1, .func (PySem.W.fnOf "check_name" "check_name" (defArgs scheck_name) (defBody scheck_name) (defScope scheck_name) .none kV1 dc1 pm1 an1 cd1 ct1), sl1⟩) (c1 : PySem.W.codeIn K cd1 "check_name" = true) (k1 : PySem.W.keepIn K (.ref f1) = true)
    (a2 : PySem.W.nsIn K mainGlobals "_law_state" = some (some (.ref f2))) (l2 : K.lookup f2 = some ⟨oc2, od2, .func (PySem.W.fnOf "_law_state" "_law_state" (defArgs s_law_state) (defBody s_law_state) (defScope s_law_state) .none kV2 dc2 pm2 an2 cd2 ct2), sl2⟩) (c2 : PySem.W.codeIn K cd2 "_law_state" = true) (k2 : PySem.W.keepIn K (.ref f2) = true)
    (a3 : PySem.W.nsIn K mainGlobals "_law_next" = some (some (.ref f3))) (l3 : K.lookup f3 = some ⟨oc3, od3, .func (PySem.W.fnOf "_law_next" "_law_next" (defArgs s_law_next) (defBody s_law_next) (defScope s_law_next) .none kV3 dc3 pm3 an3 cd3 ct3), sl3⟩) (c3 : PySem.W.codeIn K cd3 "_law_next" = true) (k3 : PySem.W.keepIn K (.ref f3) = true)
    (a4 : PySem.W.nsIn K mainGlobals "_law_pool" = some (some (.ref f4))) (l4 : K.lookup f4 = some ⟨oc4, od4, .func (PySem.W.fnOf "_law_pool" "_law_pool" (defArgs s_law_pool) (defBody s_law_pool) (defScope s_law_pool) .none kV4 dc4 pm4 an4 cd4 ct4), sl4⟩) (c4 : PySem.W.codeIn K cd4 "_law_pool" = true) (k4 : PySem.W.keepIn K (.ref f4) = true)
    (a5 : PySem.W.nsIn K mainGlobals "_law_turned" = some (some (.ref f5))) (l5 : K.lookup f5 = some ⟨oc5, od5, .func (PySem.W.fnOf "_law_turned" "_law_turned" (defArgs s_law_turned) (defBody s_law_turned) (defScope s_law_turned) .none kV5 dc5 pm5 an5 cd5 ct5), sl5⟩) (c5 : PySem.W.codeIn K cd5 "_law_turned" = true) (k5 : PySem.W.keepIn K (.ref f5) = true)
    (a6 : PySem.W.nsIn K mainGlobals "_law_thing" = some (some (.ref f6))) (l6 : K.lookup f6 = some ⟨oc6, od6, .func (PySem.W.fnOf "_law_thing" "_law_thing" (defArgs s_law_thing) (defBody s_law_thing) (defScope s_law_thing) .none kV6 dc6 pm6 an6 cd6 ct6), sl6⟩) (c6 : PySem.W.codeIn K cd6 "_law_thing" = true) (k6 : PySem.W.keepIn K (.ref f6) = true)
    (a7 : PySem.W.nsIn K mainGlobals "_law_things" = some (some (.ref f7))) (l7 : K.lookup f7 = some ⟨oc7, od7, .func (PySem.W.fnOf "_law_things" "_law_things" (defArgs s_law_things) (defBody s_law_things) (defScope s_law_things) .none kV7 dc7 pm7 an7 cd7 ct7), sl7⟩) (c7 : PySem.W.codeIn K cd7 "_law_things" = true) (k7 : PySem.W.keepIn K (.ref f7) = true)
    (a8 : PySem.W.nsIn K mainGlobals "_law_pairs" = some (some (.ref f8))) (l8 : K.lookup f8 = some ⟨oc8, od8, .func (PySem.W.fnOf "_law_pairs" "_law_pairs" (defArgs s_law_pairs) (defBody s_law_pairs) (defScope s_law_pairs) .none kV8 dc8 pm8 an8 cd8 ct8), sl8⟩) (c8 : PySem.W.codeIn K cd8 "_law_pairs" = true) (k8 : PySem.W.keepIn K (.ref f8) = true)
    (a9 : PySem.W.nsIn K mainGlobals "_law_alike" = some (some (.ref f9))) (l9 : K.lookup f9 = some ⟨oc9, od9, .func (PySem.W.fnOf "_law_alike" "_law_alike" (defArgs s_law_alike) (defBody s_law_alike) (defScope s_law_alike) .none kV9 dc9 pm9 an9 cd9 ct9), sl9⟩) (c9 : PySem.W.codeIn K cd9 "_law_alike" = true) (k9 : PySem.W.keepIn K (.ref f9) = true)
    (a10 : PySem.W.nsIn K mainGlobals "_law_rings" = some (some (.ref f10))) (l10 : K.lookup f10 = some ⟨oc10, od10, .func (PySem.W.fnOf "_law_rings" "_law_rings" (defArgs s_law_rings) (defBody s_law_rings) (defScope s_law_rings) .none kV10 dc10 pm10 an10 cd10 ct10), sl10⟩) (c10 : PySem.W.codeIn K cd10 "_law_rings" = true) (k10 : PySem.W.keepIn K (.ref f10) = true)
    (a11 : PySem.W.nsIn K mainGlobals "law" = some (some (.ref f11))) (l11 : K.lookup f11 = some ⟨oc11, od11, .func (PySem.W.fnOf "law" "law" (defArgs slaw) (defBody slaw) (defScope slaw) .none kV11 dc11 pm11 an11 cd11 ct11), sl11⟩) (c11 : PySem.W.codeIn K cd11 "law" = true) (k11 : PySem.W.keepIn K (.ref f11) = true)
    (ac0 : PySem.W.nsIn K mainGlobals "Plan" = some (some (.ref C0)))
    (pg0 : PySem.W.plainGet K C0 Str.empty = true) (hd0 : PySem.W.hasDictIn K C0 = true) (po0 : PySem.W.plainOver K C0 = true) (sa0 : PySem.W.findIn K (.ref C0) "__setattr__" = some (some (.builtin "object.__setattr__"))) (kk0 : PySem.W.keepIn K (.ref C0) = true)
    (mk0 : PySem.W.makesIn K C0 = true)
    (na0_0 : PySem.W.findIn K (.ref C0) "_leads" = some none)
    (ma0_0 : PySem.W.findIn K (.ref C0) "__init__" = some (some (.ref mf0_0))) (mi0_0 : PySem.W.isFn K (.ref mf0_0) = true) (ml0_0 : K.lookup mf0_0 = some ⟨moc0_0, mod0_0, .func (PySem.W.fnOf "__init__" "Plan.__init__" (defArgs sPlan___init__) (defBody sPlan___init__) (defScope sPlan___init__) .none mkV0_0 mdc0_0 mpm0_0 man0_0 mcd0_0 mct0_0), msl0_0⟩) (mc0_0 : PySem.W.codeIn K mcd0_0 "Plan.__init__" = true) (mp0_0 : PySem.W.keepIn K (.ref mf0_0) = true)
    (ma0_1 : PySem.W.findIn K (.ref C0) "rings" = some (some (.ref mf0_1))) (mi0_1 : PySem.W.isFn K (.ref mf0_1) = true) (ml0_1 : K.lookup mf0_1 = some ⟨moc0_1, mod0_1, .func (PySem.W.fnOf "rings" "Plan.rings" (defArgs sPlan_rings) (defBody sPlan_rings) (defScope sPlan_rings) .none mkV0_1 mdc0_1 mpm0_1 man0_1 mcd0_1 mct0_1), msl0_1⟩) (mc0_1 : PySem.W.codeIn K mcd0_1 "Plan.rings" = true) (mp0_1 : PySem.W.keepIn K (.ref mf0_1) = true)
    (kc0 : PySem.W.nsIn K mainGlobals "LONGEST" = some (some (.int 8 tk0)))
    (z0 : PySem.W.nsIn K mainGlobals "len" = some none)
    (z1 : PySem.W.nsIn K mainGlobals "isinstance" = some none)
    (z2 : PySem.W.nsIn K mainGlobals "str" = some none)
    (z3 : PySem.W.nsIn K mainGlobals "all" = some none)
    (z4 : PySem.W.nsIn K mainGlobals "enumerate" = some none)
    (z5 : PySem.W.nsIn K mainGlobals "range" = some none)
    (z6 : PySem.W.nsIn K mainGlobals "bool" = some none)
    (z7 : PySem.W.nsIn K mainGlobals "tuple" = some none)
    (z8 : PySem.W.nsIn K mainGlobals "dict" = some none)
    (z9 : PySem.W.nsIn K mainGlobals "list" = some none)
    (z10 : PySem.W.nsIn K mainGlobals "sorted" = some none)
    (z11 : PySem.W.nsIn K mainGlobals "set" = some none)
    (z12 : PySem.W.nsIn K mainGlobals "zip" = some none)
    (z13 : PySem.W.nsIn K mainGlobals "int" = some none)
    (z14 : PySem.W.nsIn K mainGlobals "min" = some none)
    (z15 : PySem.W.nsIn K mainGlobals "repr" = some none)
    (z16 : PySem.W.nsIn K mainGlobals "ValueError" = some none)
    (z17 : PySem.W.nsIn K mainGlobals "super" = some none)
    : ∃ fd : FuncData, (∀ (s : Shared) (v : Value), BindsTo s fd ⟨[v], []⟩ [("_law_script", v)]) ∧ ∀ base : Heap, K.In base → base.Ns mainGlobals mg → FnOk l.prog w K mg base CX0 5 fa fd ["_law_script"] (spLaw K) := by
  have e := hfa.symm.trans (PySem.W.mg_of X G a11)
  cases e
  have B : Blt mg := blt_mk X G z0 z1 z2 z3 z4 z5 z6 z7 z8 z9 z10 z11 z12 z13 z14 z15 z16 z17
  have F0 := fun_mk (st := sis_name) l0 c0 k0
  have b0 := F0.binds (ps := ["thing"]) fun _ _ _ _ _ _ us hl => match us, hl with | [_], _ => rfl
  have m0 := PySem.W.mg_of X G a0
  have F1 := fun_mk (st := scheck_name) l1 c1 k1
  have b1 := F1.binds (ps := ["thing"]) fun _ _ _ _ _ _ us hl => match us, hl with | [_], _ => rfl
  have m1 := PySem.W.mg_of X G a1
  have F2 := fun_mk (st := s_law_state) l2 c2 k2
  have b2 := F2.binds (ps := ["_law_cell", "_law_k"]) fun _ _ _ _ _ _ us hl => match us, hl with | [_, _], _ => rfl
  have m2 := PySem.W.mg_of X G a2
  have F3 := fun_mk (st := s_law_next) l3 c3 k3
  have b3 := F3.binds (ps := ["_law_state_here", "_law_size"]) fun _ _ _ _ _ _ us hl => match us, hl with | [_, _], _ => rfl
  have m3 := PySem.W.mg_of X G a3
  have F4 := fun_mk (st := s_law_pool) l4 c4 k4
  have b4 := F4.binds (ps := ["_law_state_here"]) fun _ _ _ _ _ _ us hl => match us, hl with | [_], _ => rfl
  have m4 := PySem.W.mg_of X G a4
  have F5 := fun_mk (st := s_law_turned) l5 c5 k5
  have b5 := F5.binds (ps := ["_law_state_here", "_law_things_here"]) fun _ _ _ _ _ _ us hl => match us, hl with | [_, _], _ => rfl
  have m5 := PySem.W.mg_of X G a5
  have F6 := fun_mk (st := s_law_thing) l6 c6 k6
  have b6 := F6.binds (ps := ["_law_state_here"]) fun _ _ _ _ _ _ us hl => match us, hl with | [_], _ => rfl
  have m6 := PySem.W.mg_of X G a6
  have F7 := fun_mk (st := s_law_things) l7 c7 k7
  have b7 := F7.binds (ps := ["_law_state_here", "_law_pool_here"]) fun _ _ _ _ _ _ us hl => match us, hl with | [_, _], _ => rfl
  have m7 := PySem.W.mg_of X G a7
  have F8 := fun_mk (st := s_law_pairs) l8 c8 k8
  have b8 := F8.binds (ps := ["_law_state_here", "_law_pool_here", "_law_things_here"]) fun _ _ _ _ _ _ us hl => match us, hl with | [_, _, _], _ => rfl
  have m8 := PySem.W.mg_of X G a8
  have F9 := fun_mk (st := s_law_alike) l9 c9 k9
  have b9 := F9.binds (ps := ["_law_found", "_law_due"]) fun _ _ _ _ _ _ us hl => match us, hl with | [_, _], _ => rfl
  have m9 := PySem.W.mg_of X G a9
  have F10 := fun_mk (st := s_law_rings) l10 c10 k10
  have b10 := F10.binds (ps := ["_law_pairs_here"]) fun _ _ _ _ _ _ us hl => match us, hl with | [_], _ => rfl
  have m10 := PySem.W.mg_of X G a10
  have F11 := fun_mk (st := slaw) l11 c11 k11
  have gc0 : ∃ t, mg "LONGEST" = some (.int 8 t) := ⟨_, PySem.W.mg_of X G kc0⟩
  have gC0 := PySem.W.mg_of X G ac0
  have cls0 : Cls K C0 := ⟨pg0, hd0, po0, sa0⟩
  have F0_0 := fun_mk (st := sPlan___init__) ml0_0 mc0_0 mp0_0
  have B0_0 := F0_0.binds (ps := ["self", "pairs"]) fun _ _ _ _ _ _ us hl => match us, hl with | [_, _], _ => rfl
  have mk0_ : Mk K C0 mf0_0 := ⟨mk0, ma0_0, mi0_0, kk0⟩
  have F0_1 := fun_mk (st := sPlan_rings) ml0_1 mc0_1 mp0_1
  have B0_1 := F0_1.binds (ps := ["self"]) fun _ _ _ _ _ _ us hl => match us, hl with | [_], _ => rfl
  have me0_1 : Meth K C0 "rings" mf0_1 := ⟨ma0_1, mi0_1, mp0_1⟩
  refine ⟨PySem.W.fnOf "law" "law" (defArgs slaw) (defBody slaw) (defScope slaw) .none kV11 dc11 pm11 an11 cd11 ct11, fun s v => .of_eq rfl, fun base _ _ => ?_⟩
  have T : PlanC K C0 := ⟨cls0, na0_0⟩
  have GI := ok_is_name (P := l.prog) (w := w) (K := K) (mg := mg) (base := base) F0 B gc0
  have c_name : Cl l.prog w K mg base 1 "is_name" (spIsName K) := ⟨_, _, _, GI, m0, k0, b0⟩
  have c_check : Cl l.prog w K mg base 2 "check_name" spCheck := ⟨_, _, _, ok_check_name F1 ⟨c_name⟩, m1, k1, b1⟩
  have c_state : Cl l.prog w K mg base 1 "_law_state" spState := ⟨_, _, _, ok__law_state F2, m2, k2, b2⟩
  have c_next : Cl l.prog w K mg base 1 "_law_next" spNext := ⟨_, _, _, ok__law_next F3, m3, k3, b3⟩
  have c1 : C1 l.prog w K mg base := ⟨c_next⟩
  have c_pool : Cl l.prog w K mg base 2 "_law_pool" spPool := ⟨_, _, _, ok__law_pool F4 B c1, m4, k4, b4⟩
  have c_turned : Cl l.prog w K mg base 2 "_law_turned" (spTurned K) := ⟨_, _, _, ok__law_turned F5 B c1, m5, k5, b5⟩
  have c_thing : Cl l.prog w K mg base 2 "_law_thing" spThing := ⟨_, _, _, ok__law_thing F6 B c1, m6, k6, b6⟩
  have c2 : C2 l.prog w K mg base := ⟨c1, c_turned, c_thing⟩
  have c_things : Cl l.prog w K mg base 3 "_law_things" (spThings K) := ⟨_, _, _, ok__law_things F7 B c2, m7, k7, b7⟩
  have c_pairs : Cl l.prog w K mg base 3 "_law_pairs" (spPairs K) := ⟨_, _, _, ok__law_pairs F8 B c2, m8, k8, b8⟩
  have c_alike : Cl l.prog w K mg base 3 "_law_alike" (spAlike K 2) := alike_all F9 B m9 b9 2
  have c_rings : Cl l.prog w K mg base 1 "_law_rings" spLRings := ⟨_, _, _, ok__law_rings F10 B, m10, k10, b10⟩
  have p_init : Mr l.prog w K mg base 3 "Plan" C0 (spInit C0) := ⟨_, _, _, mk0_, ok_Plan___init__ F0_0 B ⟨c_check⟩ T, gC0, B0_0⟩
  have p_rings : Mt l.prog w K mg base 1 C0 "rings" (spRings C0) := ⟨_, _, _, cls0, me0_1, ok_Plan_rings F0_1 B T, B0_1⟩
  exact ok_law F11 B ⟨c_state, c_next, c_pool, c_things, c_pairs, c_rings, c_alike⟩ ⟨p_init, p_rings⟩
end Nn
open PySem PySem.W PyProof.Rows
set_option maxRecDepth 100000 in
set_option maxHeartbeats 0 in
theorem PySem.Challenge.cw_newnames_k04_rings_holds : PySem.Challenge.rw_newnames_k04_rings.Holds := by
  w_on; o_law; k_head; (case hw => w_witness2)
  k_fill
  refine L2.walk_of (l := PySem.Challenge.rw_newnames_k04_rings) (n := 63) (k := 5) (x := "_law_script") (CX := fun _ => L2.CX0) (sp := fun w => Nn.spLaw _) rfl (by decide) rfl ⟨rfl, by decide, by decide⟩ (fun w h Y => PySem.W.kIn_of Y) ?F (fun _ _ a ns hl _ hS => ⟨a, ns, rfl, hS, hl, fun _ => rfl⟩) (fun _ _ _ _ _ h => h)
  case F =>
    intro w mg fa h KX G hmg
    refine' Nn.all_mk KX G hmg ?a0 ?l0 ?c0 ?k0 ?a1 ?l1 ?c1 ?k1 ?a2 ?l2 ?c2 ?k2 ?a3 ?l3 ?c3 ?k3 ?a4 ?l4 ?c4 ?k4 ?a5 ?l5 ?c5 ?k5 ?a6 ?l6 ?c6 ?k6 ?a7 ?l7 ?c7 ?k7 ?a8 ?l8 ?c8 ?k8 ?a9 ?l9 ?c9 ?k9 ?a10 ?l10 ?c10 ?k10 ?a11 ?l11 ?c11 ?k11 ?ac0 ?pg0 ?hd0 ?po0 ?sa0 ?kk0 ?mk0 ?na0_0 ?ma0_0 ?mi0_0 ?ml0_0 ?mc0_0 ?mp0_0 ?ma0_1 ?mi0_1 ?ml0_1 ?mc0_1 ?mp0_1 ?kc0 ?z0 ?z1 ?z2 ?z3 ?z4 ?z5 ?z6 ?z7 ?z8 ?z9 ?z10 ?z11 ?z12 ?z13 ?z14 ?z15 ?z16 ?z17
    (case a0 => k_is)
    (case l0 => k_is)
    (case c0 => k_is)
    (case k0 => k_is)
    (case a1 => k_is)
    (case l1 => k_is)
    (case c1 => k_is)
    (case k1 => k_is)
    (case a2 => k_is)
    (case l2 => k_is)
    (case c2 => k_is)
    (case k2 => k_is)
    (case a3 => k_is)
    (case l3 => k_is)
    (case c3 => k_is)
    (case k3 => k_is)
    (case a4 => k_is)
    (case l4 => k_is)
    (case c4 => k_is)
    (case k4 => k_is)
    (case a5 => k_is)
    (case l5 => k_is)
    (case c5 => k_is)
    (case k5 => k_is)
    (case a6 => k_is)
    (case l6 => k_is)
    (case c6 => k_is)
    (case k6 => k_is)
    (case a7 => k_is)
    (case l7 => k_is)
    (case c7 => k_is)
    (case k7 => k_is)
    (case a8 => k_is)
    (case l8 => k_is)
    (case c8 => k_is)
    (case k8 => k_is)
    (case a9 => k_is)
    (case l9 => k_is)
    (case c9 => k_is)
    (case k9 => k_is)
    (case a10 => k_is)
    (case l10 => k_is)
    (case c10 => k_is)
    (case k10 => k_is)
    (case a11 => k_is)
    (case l11 => k_is)
    (case c11 => k_is)
    (case k11 => k_is)
    (case ac0 => k_is)
    (case pg0 => k_is)
    (case hd0 => k_is)
    (case po0 => k_is)
    (case sa0 => k_is)
    (case kk0 => k_is)
    (case mk0 => k_is)
    (case na0_0 => k_is)
    (case ma0_0 => k_is)
    (case mi0_0 => k_is)
    (case ml0_0 => k_is)
    (case mc0_0 => k_is)
    (case mp0_0 => k_is)
    (case ma0_1 => k_is)
    (case mi0_1 => k_is)
    (case ml0_1 => k_is)
    (case mc0_1 => k_is)
    (case mp0_1 => k_is)
    (case kc0 => k_is)
    (case z0 => k_is)
    (case z1 => k_is)
    (case z2 => k_is)
    (case z3 => k_is)
    (case z4 => k_is)
    (case z5 => k_is)
    (case z6 => k_is)
    (case z7 => k_is)
    (case z8 => k_is)
    (case z9 => k_is)
    (case z10 => k_is)
    (case z11 => k_is)
    (case z12 => k_is)
    (case z13 => k_is)
    (case z14 => k_is)
    (case z15 => k_is)
    (case z16 => k_is)
    (case z17 => k_is)
