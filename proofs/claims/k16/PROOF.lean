import PyProof.Rows.All
import Wide.All
import OpenK.AllK
import Wide.FinOn
import HandS.ForMost
import HandS.IsInst
import HandS.TupLe
import HandS.TupAny
import HandS.Walk
import HandS.Flow
import HandS.Codes
import HandS.More
import HandS.Evl
import HandS.SetKeys
import HandS.NoneIn
import HandS.DictComp
import HandS.ListItems
import HandS.Zip
import HandS.ForExc
import HandS.WordsExc
import HandS.ExcField
import HandS.ExcIs
import HandS.ExcValue
import HandS.ExcSuper
import HandS.ExcInit
import HandS.ExcOwn
import KE.KExcIs
import HandS.Nested
import HandS.FStr
import HandS.FStrTup
import KE.KExcSuper
import HandS.SetFor
import HandS.Strs
import HandS.Defaults
import KE.GoesEnumKw
import KE.KSetDisp
import HandS.SetIn
import KE.RegKIsAll
import KE.RegKSuper
import PySem.Challenge.RW_newnames_k16_texts_refused
set_option Elab.async false
set_option linter.all false
set_option maxRecDepth 100000
set_option maxHeartbeats 4000000
namespace Nn
open PySem PySem.Spec PyProof.Rows L2

/-! ### the ledger: what a def's body knows of the heap -/
/-- M: addresses of the entry's heap H0 that the body may change; L: objects known now (new ones, and those of M); T: objects made since, that never change -/
structure At (M : List Addr) (H0 H : Hp) (L T : List (Addr × HO)) : Prop where
  base : ∀ a o, H0 a = some o → a ∉ M → H a = some o
  nd : (L.map Prod.fst).Nodup
  mem : ∀ e ∈ L, H e.1 = some e.2
  own : ∀ e ∈ L, H0 e.1 = none ∨ e.1 ∈ M
  mL : ∀ a ∈ M, a ∈ L.map Prod.fst
  tm : ∀ e ∈ T, H e.1 = some e.2
  td : ∀ e ∈ T, e.1 ∉ L.map Prod.fst
  tn : ∀ e ∈ T, H0 e.1 = none

/-- all but what stands in N is kept -/
def Kp (N : List Addr) (H H' : Hp) : Prop := ∀ a o, H a = some o → a ∉ N → H' a = some o
theorem Kp.refl {N : List Addr} (H : Hp) : Kp N H H := fun _ _ h _ => h
theorem Kp.same {H H' : Hp} (k : Kp [] H H') : Same H H' := fun a o h => k a o h (by simp)
theorem Kp.of {H H' : Hp} (k : Same H H') : Kp [] H H' := fun a o h _ => k a o h
theorem Kp.seq {K : PySem.W.Frag} {N : List Addr} {H H' : Hp} {a : Addr} {xs : List V} (k : Kp N H H') (h : SqL K H a xs) (hn : a ∉ N) : SqL K H' a xs := by
  rcases h with (h | ⟨o, h⟩) | h
  · exact .inl (.inl (k _ _ h hn))
  · exact .inl (.inr ⟨o, k _ _ h hn⟩)
  · exact .inr h
theorem Kp.sqt {K : PySem.W.Frag} {N : List Addr} {H H' : Hp} {a : Addr} {xs : List V} (k : Kp N H H') (h : SqT K H a xs) (hn : a ∉ N) : SqT K H' a xs := by
  rcases h with (h | ⟨o, h⟩) | h
  · exact .inl (.inl (k _ _ h hn))
  · exact .inl (.inr ⟨o, k _ _ h hn⟩)
  · exact .inr h
/-- one new object, not looked at again -/
def Sk (H H' : Hp) : Prop := H' = H ∨ ∃ p o, H p = none ∧ H' = upd H p o
theorem Sk.of {H : Hp} {p : Addr} {o : HO} (h : H p = none) : Sk H (upd H p o) := .inr ⟨p, o, h, rfl⟩
theorem Sk.rf {H : Hp} : Sk H H := .inl rfl

section
variable {M : List Addr} {H0 H H' : Hp} {L L' T N : List (Addr × HO)} {p : Addr} {o o' : HO} {i : Nat}
theorem At.nil (H : Hp) : At [] H H [] [] := ⟨fun _ _ h _ => h, List.nodup_nil, by simp, by simp, by simp, by simp, by simp, by simp⟩
theorem At.one (h : H p = some o) : At [p] H H [(p, o)] [] := ⟨fun _ _ h _ => h, by simp, by simpa using h, by simp, by simp, by simp, by simp, by simp⟩
theorem At.two {q : Addr} (h : H p = some o) (h' : H q = some o') (ne : p ≠ q) : At [p, q] H H [(p, o), (q, o')] [] :=
  ⟨fun _ _ h _ => h, by simpa using ne, by intro e he; simp only [List.mem_cons, List.not_mem_nil, or_false] at he; rcases he with rfl | rfl <;> assumption, by intro e he; simp only [List.mem_cons, List.not_mem_nil, or_false] at he; rcases he with rfl | rfl <;> simp, by simp, by simp, by simp, by simp⟩
theorem At.in (A : At M H0 H L T) (h : L[i]? = some (p, o)) : H p = some o := A.mem _ (List.mem_of_getElem? h)
theorem At.get (A : At M H0 H L T) (i : Nat) (h : L[i]? = some (p, o)) : H p = some o := A.in h
theorem At.keep (A : At M H0 H L T) : Kp M H0 H := A.base
theorem At.fresh (A : At M H0 H L T) (h : H p = none) : p ∉ L.map Prod.fst := fun hm => by
  obtain ⟨e, he, rfl⟩ := List.mem_map.mp hm
  rw [A.mem e he] at h
  cases h
theorem At.fresh0 (A : At M H0 H L T) (h : H p = none) : H0 p = none := by
  by_cases hM : p ∈ M
  · exact absurd (A.mL p hM) (A.fresh h)
  · cases e : H0 p with
    | none => rfl
    | some o =>
      rw [A.base p o e hM] at h
      cases h
theorem At.freshT (A : At M H0 H L T) (h : H p = none) : ∀ e ∈ T, e.1 ≠ p := fun e he q => by
  rw [← q, A.tm e he] at h
  cases h
/-- is new against the entry -/
theorem At.new0 (A : At M H0 H L T) (i : Nat) (h : L[i]? = some (p, o)) (hM : p ∉ M) : H0 p = none := (A.own _ (List.mem_of_getElem? h)).resolve_right hM
theorem At.skip (A : At M H0 H L T) (s : Sk H H') : At M H0 H' L T := by
  rcases s with rfl | ⟨p, o, h, rfl⟩
  · exact A
  · refine ⟨fun a u e hM => ?_, A.nd, fun e he => ?_, A.own, A.mL, fun e he => ?_, A.td, A.tn⟩
    · rw [upd_ne (ne_of_none (A.base a u e hM) h)]; exact A.base a u e hM
    · rw [upd_ne (ne_of_none (A.mem e he) h)]; exact A.mem e he
    · rw [upd_ne (ne_of_none (A.tm e he) h)]; exact A.tm e he
theorem At.snoc (A : At M H0 H L T) (h : H p = none) (o : HO) : At M H0 (upd H p o) (L ++ [(p, o)]) T := by
  have B := A.skip (Sk.of (o := o) h)
  have fr := A.fresh h
  refine ⟨B.base, ?_, ?_, ?_, ?_, B.tm, ?_, B.tn⟩
  · rw [List.map_append, List.nodup_append]
    refine ⟨A.nd, by simp, ?_⟩
    intro a ha b hb e
    rw [List.map_singleton, List.mem_singleton] at hb
    subst e; subst hb
    exact fr ha
  · intro e he
    rcases List.mem_append.mp he with he | he
    · exact B.mem e he
    · rw [List.mem_singleton] at he; subst he; exact upd_same
  · intro e he
    rcases List.mem_append.mp he with he | he
    · exact A.own e he
    · rw [List.mem_singleton] at he; subst he; exact .inl (A.fresh0 h)
  · intro a ha
    rw [List.map_append]
    exact List.mem_append_left _ (A.mL a ha)
  · intro e he
    rw [List.map_append, List.mem_append]
    rintro (q | q)
    · exact A.td e he q
    · rw [List.map_singleton, List.mem_singleton] at q; exact A.freshT h e he q
theorem At.snocT (A : At M H0 H L T) (h : H p = none) (o : HO) : At M H0 (upd H p o) L (T ++ [(p, o)]) := by
  have B := A.skip (Sk.of (o := o) h)
  refine ⟨B.base, A.nd, B.mem, A.own, A.mL, ?_, ?_, ?_⟩
  · intro e he
    rcases List.mem_append.mp he with he | he
    · exact B.tm e he
    · rw [List.mem_singleton] at he; subst he; exact upd_same
  · intro e he
    rcases List.mem_append.mp he with he | he
    · exact A.td e he
    · rw [List.mem_singleton] at he; subst he; exact A.fresh h
  · intro e he
    rcases List.mem_append.mp he with he | he
    · exact A.tn e he
    · rw [List.mem_singleton] at he; subst he; exact A.fresh0 h
theorem map_set_fst (L : List (Addr × HO)) (i : Nat) (h : L[i]? = some (p, o)) : (L.set i (p, o')).map Prod.fst = L.map Prod.fst := by
  rw [List.map_set]
  refine List.ext_getElem? fun j => ?_
  rw [List.getElem?_set]
  split
  · rename_i e
    subst e
    obtain ⟨hi, e1⟩ := List.getElem?_eq_some_iff.mp h
    rw [List.length_map, if_pos hi, List.getElem?_map, h]
    rfl
  · rfl
/-- what is known changes, the addresses stay -/
theorem At.chg (A : At M H0 H L T) {N : List Addr} (k : Kp N H H') (hN : ∀ a ∈ N, a ∈ L.map Prod.fst) (e : L'.map Prod.fst = L.map Prod.fst) (hm : ∀ e ∈ L', H' e.1 = some e.2) (hNM : ∀ a ∈ N, H0 a = none ∨ a ∈ M) : At M H0 H' L' T := by
  refine ⟨fun a u q hM => k a u (A.base a u q hM) fun hn => ?_, e ▸ A.nd, hm, fun x hx => ?_, fun a ha => e ▸ A.mL a ha, fun x hx => k _ _ (A.tm x hx) fun hn => A.td x hx (hN _ hn), fun x hx => e ▸ A.td x hx, A.tn⟩
  · rcases hNM a hn with z | z
    · rw [q] at z; cases z
    · exact hM z
  · have : x.1 ∈ L.map Prod.fst := e ▸ List.mem_map_of_mem (f := Prod.fst) hx
    obtain ⟨y, hy, ey⟩ := List.mem_map.mp this
    rw [← ey]
    exact A.own y hy
theorem mem_set_cases {x : Addr × HO} (h : L[i]? = some (p, o)) (nd : (L.map Prod.fst).Nodup) (hx : x ∈ L.set i (p, o')) : x = (p, o') ∨ (x ∈ L ∧ x.1 ≠ p) := by
  obtain ⟨j, hj⟩ := List.getElem?_of_mem hx
  rw [List.getElem?_set] at hj
  split at hj
  · split at hj
    · exact .inl (Option.some.inj hj).symm
    · cases hj
  · rename_i ne
    refine .inr ⟨List.mem_of_getElem? hj, fun q => ne ?_⟩
    have a1 : (L.map Prod.fst)[i]? = some p := by rw [List.getElem?_map, h]; rfl
    have a2 : (L.map Prod.fst)[j]? = some p := by rw [List.getElem?_map, hj]; exact congrArg some q
    exact nd_ix nd a1 a2
/-- a callee changed the object at place i alone -/
theorem At.c1 (A : At M H0 H L T) (i : Nat) (h : L[i]? = some (p, o)) (k : Kp [p] H H') (hp : H' p = some o') : At M H0 H' (L.set i (p, o')) T := by
  have hm : p ∈ L.map Prod.fst := List.mem_map_of_mem (f := Prod.fst) (List.mem_of_getElem? h)
  refine A.chg k (fun a ha => by rw [List.mem_singleton] at ha; exact ha ▸ hm) (map_set_fst L i h) (fun x hx => ?_) (fun a ha => by rw [List.mem_singleton] at ha; subst ha; exact A.own _ (List.mem_of_getElem? h))
  rcases mem_set_cases h A.nd hx with rfl | ⟨hx, ne⟩
  · exact hp
  · exact k _ _ (A.mem x hx) (by rw [List.mem_singleton]; exact ne)
theorem At.c0 (A : At M H0 H L T) (k : Kp [] H H') : At M H0 H' L T := A.chg k (by simp) rfl (fun x hx => k _ _ (A.mem x hx) (by simp)) (by simp)
theorem At.set (A : At M H0 H L T) (i : Nat) (h : L[i]? = some (p, o)) (o' : HO) : At M H0 (upd H p o') (L.set i (p, o')) T :=
  A.c1 i h (fun a u e hn => by rw [upd_ne (by simpa using hn)]; exact e) upd_same
/-- a callee made the object at p -/
theorem At.add (A : At M H0 H L T) (A' : At M H0 H' L' T) (e : L'.map Prod.fst = L.map Prod.fst) (h : H p = none) (hp : H' p = some o) : At M H0 H' (L' ++ [(p, o)]) T := by
  have fr := A.fresh h
  refine ⟨A'.base, ?_, ?_, ?_, ?_, A'.tm, ?_, A'.tn⟩
  · rw [List.map_append, List.nodup_append]
    refine ⟨A'.nd, by simp, ?_⟩
    intro a ha b hb q
    rw [List.map_singleton, List.mem_singleton] at hb
    subst q; subst hb
    exact fr (e ▸ ha)
  · intro x he
    rcases List.mem_append.mp he with he | he
    · exact A'.mem x he
    · rw [List.mem_singleton] at he; subst he; exact hp
  · intro x he
    rcases List.mem_append.mp he with he | he
    · exact A'.own x he
    · rw [List.mem_singleton] at he; subst he; exact .inl (A.fresh0 h)
  · intro a ha
    rw [List.map_append]
    exact List.mem_append_left _ (A'.mL a ha)
  · intro x he
    rw [List.map_append, List.mem_append]
    rintro (q | q)
    · exact A'.td x he q
    · rw [List.map_singleton, List.mem_singleton] at q; exact A.freshT h x he q
theorem At.addT (A : At M H0 H L T) (A' : At M H0 H' L' T) (e : L'.map Prod.fst = L.map Prod.fst) (N : List (Addr × HO)) (h : ∀ x ∈ N, H x.1 = none ∧ H' x.1 = some x.2) : At M H0 H' L' (T ++ N) := by
  refine ⟨A'.base, A'.nd, A'.mem, A'.own, A'.mL, ?_, ?_, ?_⟩
  · intro x he
    rcases List.mem_append.mp he with he | he
    · exact A'.tm x he
    · exact (h x he).2
  · intro x he
    rcases List.mem_append.mp he with he | he
    · exact A'.td x he
    · rw [e]; exact A.fresh (h x he).1
  · intro x he
    rcases List.mem_append.mp he with he | he
    · exact A'.tn x he
    · exact A.fresh0 (h x he).1
/-- the later entries forgotten -/
theorem At.take (A : At M H0 H L T) (n : Nat) (hM : ∀ a ∈ M, a ∈ (L.take n).map Prod.fst) : At M H0 H (L.take n) T :=
  ⟨A.base, A.nd.sublist ((List.take_sublist n L).map _), fun e he => A.mem e (List.mem_of_mem_take he), fun e he => A.own e (List.mem_of_mem_take he), hM, A.tm,
    fun e he q => A.td e he (((List.take_sublist n L).map _).subset q), A.tn⟩
theorem At.sub (A : At M H0 H L T) (hs : List.Sublist L' L) (hM : ∀ a ∈ M, a ∈ L'.map Prod.fst) : At M H0 H L' T :=
  ⟨A.base, A.nd.sublist (hs.map _), fun e he => A.mem e (hs.subset he), fun e he => A.own e (hs.subset he), hM, A.tm, fun e he q => A.td e he ((hs.map _).subset q), A.tn⟩
theorem At.sel (A : At M H0 H L T) (hM : ∀ a ∈ M, a ∈ L'.map Prod.fst) (hs : List.Sublist L' L) : At M H0 H L' T := A.sub hs hM
theorem At.selT (A : At M H0 H L T) (N : List (Addr × HO)) (h : ∀ x ∈ N, x ∈ T) : At M H0 H L N := ⟨A.base, A.nd, A.mem, A.own, A.mL, fun e he => A.tm e (h e he), fun e he => A.td e (h e he), fun e he => A.tn e (h e he)⟩
theorem At.lst {K : PySem.W.Frag} {xs : List V} (A : At M H0 H L T) (i : Nat) (h : L[i]? = some (p, .lst xs)) : SqL K H p xs := .inl (.inl (A.in h))
theorem At.tup {K : PySem.W.Frag} {xs : List V} (A : At M H0 H L T) (i : Nat) (h : L[i]? = some (p, .tup xs)) : SqT K H p xs := .inl (.inl (A.in h))
theorem At.sq {K : PySem.W.Frag} {xs : List V} (A : At M H0 H L T) (h : SqL K H0 p xs) (hM : p ∉ M) : SqL K H p xs := A.keep.seq h hM
theorem At.st {K : PySem.W.Frag} {xs : List V} (A : At M H0 H L T) (h : SqT K H0 p xs) (hM : p ∉ M) : SqT K H p xs := A.keep.sqt h hM
theorem At.ne (A : At M H0 H L T) {q : Addr} {u : HO} (i j : Nat) (h : L[i]? = some (p, o)) (h' : L[j]? = some (q, u)) (hij : i ≠ j) : p ≠ q := fun e => by
  subst e
  exact hij (nd_ix A.nd (x := p) (by rw [List.getElem?_map, h]; rfl) (by rw [List.getElem?_map, h']; rfl))
end

/-! the changed heap as a letter: the reading behind it is f of the heap (u: a new object; s: an object set; t: a new object that stays; n: a new one not looked at) -/
section
variable {M : List Addr} {H0 H : Hp} {L T : List (Addr × HO)} {p : Addr} {o o' : HO} {α β : Sort _} {f1 : Hp → Prop} {f2 : Hp → α → Prop} {f3 : Hp → α → β → Prop} {q : α} {r : β}
theorem At.u1 (A : At M H0 H L T) (h : H p = none) (k : ∀ H', At M H0 H' (L ++ [(p, o)]) T → f1 H') : f1 (upd H p o) := k _ (A.snoc h o)
theorem At.u2 (A : At M H0 H L T) (h : H p = none) (k : ∀ H', At M H0 H' (L ++ [(p, o)]) T → f2 H' q) : f2 (upd H p o) q := k _ (A.snoc h o)
theorem At.s1 (A : At M H0 H L T) (i : Nat) (h : L[i]? = some (p, o)) (k : ∀ H', At M H0 H' (L.set i (p, o')) T → f1 H') : f1 (upd H p o') := k _ (A.set i h o')
theorem At.s2 (A : At M H0 H L T) (i : Nat) (h : L[i]? = some (p, o)) (k : ∀ H', At M H0 H' (L.set i (p, o')) T → f2 H' q) : f2 (upd H p o') q := k _ (A.set i h o')
theorem At.t1 (A : At M H0 H L T) (h : H p = none) (k : ∀ H', At M H0 H' L (T ++ [(p, o)]) → f1 H') : f1 (upd H p o) := k _ (A.snocT h o)
theorem At.t2 (A : At M H0 H L T) (h : H p = none) (k : ∀ H', At M H0 H' L (T ++ [(p, o)]) → f2 H' q) : f2 (upd H p o) q := k _ (A.snocT h o)
theorem At.n1 (A : At M H0 H L T) (h : H p = none) (k : ∀ H', At M H0 H' L T → f1 H') : f1 (upd H p o) := k _ (A.skip (Sk.of h))
theorem At.n2 (A : At M H0 H L T) (h : H p = none) (k : ∀ H', At M H0 H' L T → f2 H' q) : f2 (upd H p o) q := k _ (A.skip (Sk.of h))
end
/-! ### calls of the text's own defs -/
structure Cl (P : Program) (w : World) (K : PySem.W.Frag) (mg : Str → Option Value) (base : Heap) (k : Nat) (x : Str) (sp : Sp) : Prop where
  ex : ∃ (f : Addr) (fd : FuncData) (ps : List Str), FnOk P w K mg base CX0 k f fd ps sp ∧ mg x = some (.ref f) ∧ PySem.W.keepIn K (.ref f) = true ∧ Binds K fd ps []
section
variable {X : Cx} {k j : Nat} {x : Str} {sp : Sp} {p pos : Pos} {e : Expr} {es : List Expr} {t : TA}
theorem pe_cl (c : Cl X.prog X.w X.K X.mg X.base k x sp) (hr : Room j X.A) (hk : k ≤ j) (hg : Gl X x) (ha : PA X (e :: es) t)
    (hdb : (x == ("__debug__" : Str)) = false := by decide) (he : starEach (e :: es) X.env = (false, eval e X.env) :: starEach es X.env := by rfl) (hpl : (backTo pos (starEach es X.env)).any (·.1) = false := by rfl) :
    PE X (.Call (.Name x p) (e :: es) [] pos) (tCall sp [] E0 t) := by
  obtain ⟨f, fd, ps, F, hm, kp, b⟩ := c.ex
  exact pe_call F (hr.mono hk) hg hm kp b .nil pass0 ha hdb he hpl
end

section
variable {X : Cx} {x : Str} {pos : Pos}
theorem pe_ty {T : String} (hg : Gl X x) (hm : X.mg x = none) (hv : bootBuiltins x = some (.type T)) (hn : x ≠ "__name__" := by decide) (hd : (x == ("__debug__" : Str)) = false := by decide) : PE X (.Name x pos) (tC (.ty T)) := pe_bltn hg hm hv rfl hn hd
theorem pe_gint {i : Int} (hg : Gl X x) (h : ∃ t, X.mg x = some (.int i t)) (hd : (x == ("__debug__" : Str)) = false := by decide) : PE X (.Name x pos) (tC (.int i)) := by
  obtain ⟨t, h⟩ := h
  exact pe_glob hg h ⟨t, rfl⟩ hd
theorem pe_gref {a : Addr} (hg : Gl X x) (h : X.mg x = some (.ref a)) (hd : (x == ("__debug__" : Str)) = false := by decide) : PE X (.Name x pos) (tC (.ref a)) := pe_glob hg h rfl hd
end
/-! within a comprehension's block: K as it is in the def -/
section
variable {X : Cx} {K : PySem.W.Frag}
theorem ix_list' (h : X.K = K) : IxR X (rIxL K) := h ▸ ix_list
theorem ix_tup' (h : X.K = K) : IxR X (rIxT K) := h ▸ ix_tup
theorem sl_list' (h : X.K = K) : SlR X (rSlL K) := h ▸ sl_list
theorem op_in_seq' (h : X.K = K) : OpR X (compareOp .In) (rIn K false) := h ▸ op_in_seq
theorem op_notIn_seq' (h : X.K = K) : OpR X (compareOp .NotIn) (rIn K true) := h ▸ op_notIn_seq
theorem op_eqD' (h : X.K = K) (hu : X.A.units + 64 < cLine) : OpR X (compareOp .Eq) (rEqD K) := h ▸ op_eqD hu
theorem op_neD' (h : X.K = K) (hu : X.A.units + 64 < cLine) : OpR X (compareOp .NotEq) (rNeD K) := h ▸ op_neD hu
theorem call_isi' (h : X.K = K) : CallR X (.builtin "isinstance") (rIsi K) := h ▸ call_isi
theorem pe_fld' {e : Expr} {f : Str} {pos : Pos} {ta : TE} (h : X.K = K) (he : PE X e ta) (hb : attributeBase e f X.env (eval e X.env) = eval e X.env) : PE X (.Attribute e f pos) (tFld K ta f) := h ▸ pe_fld he hb
theorem pg_tup' {pos : Pos} {es : List Expr} {k : Nat} {t : TGs} {n : Nat} (hK : X.K = K) (hc : X.calm = true) (h : PGs X es t)
    (hn : (assignEach es X.env).length = n := by rfl) (hst : (assignEach es X.env).findIdx? (·.1) = none := by rfl) : PG X (.Tuple es k pos) (gTup K n t) := hK ▸ pg_tup hc h hn hst
end
/-! ### readings, one step each -/
section
variable {σ : L2.St} {H : Hp} {Q : VK} {ta tb tc te : TE} {r r' : R2} {v x y : V} {K : PySem.W.Frag} {g : TG} {t u : TS} {c c' : TT} {n bk ct : L2.St → Hp → Prop} {rt : VK} {QT : Bool → Hp → Prop} {QA : List V → Hp → Prop} {tr : TA}
theorem rd_var {i : Nat} (h : σ[i]? = some (some v)) (k : Q v H) : tVar i σ H Q := ⟨v, h, k⟩
theorem rd_c (k : Q v H) : tC v σ H Q := k
theorem rd_op (k : ta σ H fun x H1 => tb σ H1 fun y H2 => r x y H2 Q) : tOp r ta tb σ H Q := k
theorem rd_un {r : V → Hp → VK → Prop} (k : ta σ H fun x H1 => r x H1 Q) : tUn r ta σ H Q := k
theorem rd_I0 {f : Int → Int → V} {i j : Int} (k : Q (f i j) H) : rI0 f (.int i) (.int j) H Q := ⟨i, j, rfl, rfl, k⟩
theorem rd_I {C : Int → Int → Prop} {f : Int → Int → V} {i j : Int} (c : C i j) (k : Q (f i j) H) : rI C f (.int i) (.int j) H Q := ⟨i, j, rfl, rfl, c, k⟩
theorem rd_mul {i j : Int} (c : CMul i j) (k : Q (.int (i * j)) H) : rI CMul (fun i j => .int (i * j)) (.int i) (.int j) H Q := ⟨i, j, rfl, rfl, c, k⟩
theorem rd_mod {i j : Int} (c : 0 < j) (k : Q (.int (i % j)) H) : rI (fun _ j => 0 < j) (fun i j => .int (i % j)) (.int i) (.int j) H Q := ⟨i, j, rfl, rfl, c, k⟩
theorem rd_fdiv {i j : Int} (c : CDiv i j) (k : Q (.int (i / j)) H) : rI CDiv (fun i j => .int (i / j)) (.int i) (.int j) H Q := ⟨i, j, rfl, rfl, c, k⟩
theorem rd_pow {i j : Int} (c : CPow i j) (k : Q (.int (i ^ j.toNat)) H) : rI CPow (fun i j => .int (i ^ j.toNat)) (.int i) (.int j) H Q := ⟨i, j, rfl, rfl, c, k⟩
theorem rd_U {f : Int → V} {i : Int} (k : Q (f i) H) : rU f (.int i) H Q := ⟨i, rfl, k⟩
theorem rd_eq (h : scal x y = true) (k : Q (.bl (decide (x = y))) H) : rEq x y H Q := ⟨h, k⟩
theorem rd_ne (h : scal x y = true) (k : Q (.bl (!decide (x = y))) H) : rNe x y H Q := ⟨h, k⟩
theorem rd_test (k : te σ H fun x H' => ∃ k, x = .bl k ∧ QT k H') : tTest te σ H QT := k
theorem rd_B (k : te σ H fun x H' => ∃ k, x = .bl k ∧ QT k H') : tB te σ H QT := k
theorem rd_bl {b : Bool} {R : Bool → Prop} (k : R b) : ∃ c, V.bl b = .bl c ∧ R c := ⟨b, rfl, k⟩
theorem rd_and (k : c σ H fun b H1 => if b = true then c' σ H1 QT else QT false H1) : tAnd c c' σ H QT := k
theorem rd_or (k : c σ H fun b H1 => if b = true then QT true H1 else c' σ H1 QT) : tOr c c' σ H QT := k
theorem rd_yes (k : QT true H) : tYes σ H QT := k
theorem rd_not (k : c σ H fun b H1 => QT (!b) H1) : tNot c σ H QT := k
theorem rd_andV (k : ta σ H fun x H1 => ∃ b, x = .bl b ∧ if b = true then tb σ H1 Q else Q (.bl false) H1) : tAndV ta tb σ H Q := k
theorem rd_orV (k : ta σ H fun x H1 => ∃ b, x = .bl b ∧ if b = true then Q (.bl true) H1 else tb σ H1 Q) : tOrV ta tb σ H Q := k
theorem rd_notV (k : ta σ H fun x H1 => ∃ b, x = .bl b ∧ Q (.bl (!b)) H1) : tNotV ta σ H Q := k
theorem rd_ifE (k : c σ H fun b H1 => if b = true then ta σ H1 Q else tb σ H1 Q) : tIf c ta tb σ H Q := k
theorem rd_chain (k : ta σ H fun x H1 => tb σ H1 fun y H2 => r x y H2 fun z H3 => ∃ k, z = .bl k ∧ (if k = true then tc σ H3 fun w' H4 => r' y w' H4 Q else Q (.bl false) H3)) : tChain r r' ta tb tc σ H Q := k
theorem rd_cons (k : ta σ H fun x H1 => tr σ H1 fun xs H2 => QA (x :: xs) H2) : tCons ta tr σ H QA := k
theorem rd_nil (k : QA [] H) : tNil σ H QA := k
theorem rd_call {sp : Sp} {E : XK} {dvs : List V} (k : tr σ H fun vs H1 => sp (vs ++ dvs) H1 Q E) : tCall sp dvs E tr σ H Q := k
theorem rd_cb {r : List V → Hp → VK → Prop} (k : tr σ H fun vs H1 => r vs H1 Q) : tCB r tr σ H Q := k
theorem rd_tup (k : tr σ H fun xs H1 => xs.length ≤ sizeLine ∧ ∀ p, H1 p = none → Q (.ref p) (upd H1 p (.tup xs))) : tTup tr σ H Q := k
theorem rd_lst (k : tr σ H fun xs H1 => xs.length ≤ sizeLine ∧ ∀ p, H1 p = none → Q (.ref p) (upd H1 p (.lst xs))) : tLst tr σ H Q := k
theorem rd_bm0 {T : String} {r : V → List V → Hp → VK → Prop} (k : te σ H fun x H1 => tyV K T x H1 ∧ r x [] H1 Q) : tBM0 K T r te σ H Q := k
theorem rd_bm {T : String} {r : V → List V → Hp → VK → Prop} (k : te σ H fun x H1 => tyV K T x H1 ∧ tr σ H1 fun xs H2 => r x xs H2 Q) : tBM K T r te tr σ H Q := k
theorem rd_m1 {r : V → List V → Hp → VK → Prop} (k : ta σ H fun x H1 => (∃ a, x = .str a) ∧ tb σ H1 fun y H2 => r x [y] H2 Q) : tM1 r ta tb σ H Q := k
theorem rd_sl {rs : V → Option Int → Option Int → Hp → VK → Prop} {tl th : TO} (k : te σ H fun x H1 => tl σ H1 fun lo H2 => th σ H2 fun hi H3 => rs x lo hi H3 Q) : tSl rs te tl th σ H Q := k
theorem rd_po0 {QO : Option Int → Hp → Prop} (k : QO none H) : tNoPart σ H QO := k
theorem rd_po1 {QO : Option Int → Hp → Prop} (k : te σ H fun x H1 => ∃ i, x = .int i ∧ QO (some i) H1) : tPart te σ H QO := k
theorem rd_in {i : Int} {R : Int → Prop} (k : R i) : ∃ j, V.int i = .int j ∧ R j := ⟨i, rfl, k⟩
theorem rd_dni {td ty : TE} (k : ty σ H fun y H1 => td σ H1 fun x H2 => ∃ a o, x = .ref a ∧ DGet H2 a y o ∧ Q (.bl (!o.isSome)) H2) : tDNotIn ty td σ H Q := k
theorem rd_di {td ty : TE} (k : ty σ H fun y H1 => td σ H1 fun x H2 => ∃ a o, x = .ref a ∧ DGet H2 a y o ∧ Q (.bl o.isSome) H2) : tDIn ty td σ H Q := k
theorem rd_dget {td ty : TE} (k : td σ H fun x H1 => ty σ H1 fun y H2 => ∃ a v, x = .ref a ∧ DGet H2 a y (some v) ∧ Q v H2) : tDGet td ty σ H Q := k
theorem rd_dget1 {td ty : TE} (k : td σ H fun x H1 => ∃ a, x = .ref a ∧ IsD H1 a ∧ ty σ H1 fun y H2 => ∃ o, DGet H2 a y o ∧ Q (o.getD .non) H2) : tDGet1 td ty σ H Q := k
theorem rd_dget2 {td ty tx : TE} (k : td σ H fun x H1 => ∃ a, x = .ref a ∧ IsD H1 a ∧ ty σ H1 fun y H2 => tx σ H2 fun z H3 => ∃ o, DGet H3 a y o ∧ Q (o.getD z) H3) : tDGet2 td ty tx σ H Q := k
theorem rd_dput {td ty tv : TE} (k : tv σ H fun v H1 => td σ H1 fun x H2 => ty σ H2 fun y H3 => ∃ a H4, x = .ref a ∧ DPut H3 a y v H4 ∧ n σ H4) : sDPut td ty tv ⟨n, rt, bk, ct⟩ σ H := k
theorem rd_dnew (k : ∀ p, H p = none → Q (.ref p) (upd H p (.dK []))) : tDNewK σ H Q := k
theorem rd_ikeys {td : TE} {R : It → Hp → Prop} (k : td σ H fun x H1 => ∃ d o, x = .ref d ∧ ((∃ kvs, H1 d = some (.frz o (.dK kvs)) ∧ R (Itk d o kvs) H1) ∨ ∃ kvs, H1 d = some (.frz o (.dT kvs)) ∧ R (Itkt d o kvs) H1)) : iKeys td σ H R := k
-- statements
theorem rd_lock {d : Addr} {u : HO} {t : TS} (hd : H d = some u) (mu : Mut (some u)) (k : ∀ od, t ⟨fun σ' H' => H' d = some (.frz od u) ∧ n σ' (upd H' d u), fun v H' => H' d = some (.frz od u) ∧ rt v (upd H' d u), fun σ' H' => H' d = some (.frz od u) ∧ bk σ' (upd H' d u), fun σ' H' => H' d = some (.frz od u) ∧ ct σ' (upd H' d u)⟩ σ (upd H d (.frz od u))) : tLock t ⟨n, rt, bk, ct⟩ σ H := ⟨d, u, hd, mu, k⟩
theorem rd_lockE {d : Addr} {u : HO} {t : TE} (hd : H d = some u) (mu : Mut (some u)) (k : ∀ od, t σ (upd H d (.frz od u)) fun v H' => H' d = some (.frz od u) ∧ Q v (upd H' d u)) : tLockE t σ H Q := ⟨d, u, hd, mu, k⟩
theorem rd_seq (k : t ⟨u ⟨n, rt, bk, ct⟩, rt, bk, ct⟩ σ H) : tSeq t u ⟨n, rt, bk, ct⟩ σ H := k
theorem rd_set {i : Nat} (k : te σ H fun x H1 => n (σ.set i (some x)) H1) : tAsg te (gName i) ⟨n, rt, bk, ct⟩ σ H := k
theorem rd_asg (k : te σ H fun x H1 => g x σ H1 n) : tAsg te g ⟨n, rt, bk, ct⟩ σ H := k
theorem rd_sub {s : TSet} {Q : L2.St → Hp → Prop} (k : ta σ H fun o H1 => tb σ H1 fun i H2 => s o i v H2 fun H3 => Q σ H3) : gSub ta tb s v σ H Q := k
theorem rd_ret (k : te σ H rt) : tRet te ⟨n, rt, bk, ct⟩ σ H := k
theorem rd_drop (k : te σ H fun _ H1 => n σ H1) : tDrop te ⟨n, rt, bk, ct⟩ σ H := k
theorem rd_next' (k : n σ H) : tNext ⟨n, rt, bk, ct⟩ σ H := k
theorem rd_if (k : c σ H fun b H1 => if b = true then t ⟨n, rt, bk, ct⟩ σ H1 else u ⟨n, rt, bk, ct⟩ σ H1) : tIfS c t u ⟨n, rt, bk, ct⟩ σ H := k
theorem rd_brk (k : bk σ H) : tBreak ⟨n, rt, bk, ct⟩ σ H := k
theorem rd_cont (k : ct σ H) : tCont ⟨n, rt, bk, ct⟩ σ H := k
theorem rd_lc {wi : TI} {vs : List Nat} (k : wi σ H fun J H1 => ∀ D, H1 D = none → ∃ W : Nat → Nat → Hp → Prop, (∃ m, W 0 m (upd H1 D (.lst []))) ∧ ∀ i m H, W i m H →
  (J.stop i H ∧ Q (.ref D) H) ∨ (J.go i H ∧ ∃ Nx : Hp → Prop, (∀ H', Nx H' → ∃ m', m' < m ∧ W (i + 1) m' H') ∧ ∀ x H', J.yld i H x H' → g x (wipe σ vs) H' fun σ2 H2 => wipe σ2 vs = wipe σ vs ∧ c σ2 H2 fun b H3 =>
    if b = true then te σ2 H3 fun y H4 => ∃ acc, H4 D = some (.lst acc) ∧ acc.length < sizeLine ∧ Nx (upd H4 D (.lst (acc ++ [y]))) else Nx H3)) : tLc wi g c te vs σ H Q := k
theorem rd_rng1 {R : It → Hp → Prop} (k : tr σ H fun vs H1 => ∃ j : Int, vs = [.int j] ∧ -(2 ^ 62) ≤ j ∧ j < 2 ^ 62 ∧ R (Itr 0 j.toNat) H1) : iRng1 tr σ H R := k
theorem rd_istr {R : It → Hp → Prop} (k : te σ H fun v H1 => ∃ x, v = .str x ∧ R (Its x) H1) : iStr te σ H R := k
theorem rd_ilst {R : It → Hp → Prop} (k : te σ H fun x H1 => ∃ a, x = .ref a ∧ (∃ xs, SqL K H1 a xs) ∧ R (Itl K a) H1) : iList K te σ H R := k
theorem rd_ienum {R : It → Hp → Prop} (k : tr σ H fun vs H1 => ∃ a xs, vs = [.ref a] ∧ SqL K H1 a xs ∧ R (Ite K a) H1) : iEnum K tr σ H R := k
-- ifs
theorem rd_ite {p : Prop} [Decidable p] {A B : Prop} (h1 : p → A) (h2 : ¬ p → B) : if decide p = true then A else B := by
  by_cases h : p
  · rw [if_pos (decide_eq_true h)]; exact h1 h
  · rw [if_neg (by rw [decide_eq_false h]; decide)]; exact h2 h
theorem rd_iteN {p : Prop} [Decidable p] {A B : Prop} (h1 : ¬ p → A) (h2 : p → B) : if (!decide p) = true then A else B := by
  by_cases h : p
  · rw [decide_eq_true h, if_neg (by decide)]; exact h2 h
  · rw [decide_eq_false h]; simpa using h1 h
theorem rd_T {A B : Prop} (h : A) : if true = true then A else B := by rw [if_pos rfl]; exact h
theorem rd_F {A B : Prop} (h : B) : if false = true then A else B := by rw [if_neg (by decide)]; exact h
theorem rd_nT {A B : Prop} (h : B) : if (!true) = true then A else B := by rw [if_neg (by decide)]; exact h
theorem rd_nF {A B : Prop} (h : A) : if (!false) = true then A else B := by rw [if_pos (by rfl)]; exact h
theorem rd_iteB {b : Bool} {A B : Prop} (h1 : b = true → A) (h2 : b = false → B) : if b = true then A else B := by
  cases b
  · exact h2 rfl
  · exact h1 rfl
-- the heap, by the ledger
variable {M : List Addr} {H0 : Hp} {L T : List (Addr × HO)}
theorem rd_new {o : HO} {m : Nat} (A : At M H0 H L T) (hz : m ≤ sizeLine) (k : ∀ p H', At M H0 H' (L ++ [(p, o)]) T → Q (.ref p) H') : m ≤ sizeLine ∧ ∀ p, H p = none → Q (.ref p) (upd H p o) := ⟨hz, fun p h => k p _ (A.snoc h o)⟩
theorem rd_new1 {o : HO} (A : At M H0 H L T) (k : ∀ p H', At M H0 H' (L ++ [(p, o)]) T → Q (.ref p) H') : ∀ p, H p = none → Q (.ref p) (upd H p o) := fun p h => k p _ (A.snoc h o)
theorem rd_newT {o : HO} {m : Nat} (A : At M H0 H L T) (hz : m ≤ sizeLine) (k : ∀ p H', At M H0 H' L (T ++ [(p, o)]) → Q (.ref p) H') : m ≤ sizeLine ∧ ∀ p, H p = none → Q (.ref p) (upd H p o) := ⟨hz, fun p h => k p _ (A.snocT h o)⟩
theorem rd_ixL {p : Addr} {xs : List V} {i : Int} (h : SqL K H p xs) (e : atI xs i = some v) (k : Q v H) : rIxL K (.ref p) (.int i) H Q := ⟨p, xs, i, v, rfl, rfl, h, e, k⟩
theorem rd_ixS {z : Str} {i : Int} {c : Nat} (h : z.length ≤ sizeLine) (e : atI z.cps.toList i = some c) (k : Q (.str ⟨#[c]⟩) H) : rIxS (.str z) (.int i) H Q := ⟨z, i, c, rfl, rfl, h, e, k⟩
theorem rd_ixT {p : Addr} {xs : List V} {i : Int} (h : SqT K H p xs) (e : atI xs i = some v) (k : Q v H) : rIxT K (.ref p) (.int i) H Q := ⟨p, xs, i, v, rfl, rfl, h, e, k⟩
theorem rd_setL {p : Addr} {xs : List V} {i : Int} {j : Nat} {QH : Hp → Prop} (A : At M H0 H L T) (m : Nat) (h : L[m]? = some (p, .lst xs)) (e : ixN xs.length i = some j) (k : ∀ H', At M H0 H' (L.set m (p, .lst (xs.set j v))) T → QH H') : rSetL (.ref p) (.int i) v H QH :=
  ⟨p, xs, i, j, rfl, rfl, A.in h, e, k _ (A.set m h _)⟩
theorem rd_acc {D : Addr} {acc : List V} {Nx : Hp → Prop} (A : At M H0 H L T) (m : Nat) (h : L[m]? = some (D, .lst acc)) (hz : acc.length < sizeLine) (k : ∀ H', At M H0 H' (L.set m (D, .lst (acc ++ [v]))) T → Nx H') :
    ∃ acc, H D = some (.lst acc) ∧ acc.length < sizeLine ∧ Nx (upd H D (.lst (acc ++ [v]))) := ⟨acc, A.in h, hz, k _ (A.set m h _)⟩
theorem rd_slL {a : Addr} {xs : List V} {lo hi : Option Int} (A : At M H0 H L T) (h : SqL K H a xs) (k : ∀ p H', At M H0 H' (L ++ [(p, .lst (cutV xs lo hi))]) T → Q (.ref p) H') : rSlL K (.ref a) lo hi H Q := ⟨a, xs, rfl, h, fun p hp => k p _ (A.snoc hp _)⟩
theorem rd_for {wi : TI} (k : wi σ H fun J H1 => ∃ W : Nat → Nat → L2.St → Hp → Prop, (∃ m, W 0 m σ H1) ∧ ∀ i m σ H, W i m σ H → (J.stop i H ∧ n σ H) ∨ (J.go i H ∧ ∃ N : L2.St → Hp → Prop, (∀ σ' H', N σ' H' → ∃ m', m' < m ∧ W (i + 1) m' σ' H') ∧ ∀ x H', J.yld i H x H' → g x σ H' fun σ2 H2 => t ⟨N, rt, n, N⟩ σ2 H2)) : tFor wi g t ⟨n, rt, bk, ct⟩ σ H := k
/-- a for over what walks -/
theorem forI {J : It} {z : Nat} {G : Hp → Prop} {Y : Nat → Hp → V → Hp → Prop} (w : Walk J z G Y) (Pv : Nat → L2.St → Hp → Prop) (h0 : Pv 0 σ H) (hG : ∀ i σ H, i ≤ z → Pv i σ H → G H)
    (hs : ∀ i x σ H H', i < z → Pv i σ H → Y i H x H' → g x σ H' fun σ2 H2 => t ⟨Pv (i + 1), rt, n, Pv (i + 1)⟩ σ2 H2) (hd : ∀ σ H, Pv z σ H → n σ H) :
    ∃ W : Nat → Nat → L2.St → Hp → Prop, (∃ m, W 0 m σ H) ∧ ∀ i m σ H, W i m σ H → (J.stop i H ∧ n σ H) ∨ (J.go i H ∧ ∃ N : L2.St → Hp → Prop, (∀ σ' H', N σ' H' → ∃ m', m' < m ∧ W (i + 1) m' σ' H') ∧ ∀ x H', J.yld i H x H' → g x σ H' fun σ2 H2 => t ⟨N, rt, n, N⟩ σ2 H2) :=
  for_it (D := ⟨n, rt, fun _ _ => False, fun _ _ => False⟩) w Pv h0 hG hs hd
/-- while: W falls -/
theorem rd_while (W : Nat → L2.St → Hp → Prop) (m : Nat) (h0 : W m σ H) (hs : ∀ m σ H, W m σ H → c σ H fun b H1 => if b = true then ∃ N : L2.St → Hp → Prop, (∀ σ' H', N σ' H' → ∃ m', m' < m ∧ W m' σ' H') ∧ t ⟨N, rt, n, N⟩ σ H1 else n σ H1) : tWhile c t ⟨n, rt, bk, ct⟩ σ H := ⟨W, ⟨m, h0⟩, hs⟩
/-- for i, x in enumerate(l) -/
theorem rd_forEnum {l : Addr} {xs : List V} {a b j : Nat} (hj : σ[j]? = some (some (.ref l))) (h : SqL K H l xs) (Pv : Nat → L2.St → Hp → Prop) (h0 : Pv 0 σ H) (hl : ∀ i σ H, Pv i σ H → SqL K H l xs)
    (hs : ∀ i x σ H H', xs[i]? = some x → Pv i σ H → Sk H H' → t ⟨Pv (i + 1), rt, n, Pv (i + 1)⟩ ((σ.set a (some (.int (i : Int)))).set b (some x)) H') (hd : ∀ σ H, Pv xs.length σ H → n σ H) :
    tFor (iEnum K (tCons (tVar j) tNil)) (gTup K 2 (gCons (gName a) (gCons (gName b) gNil))) t ⟨n, rt, bk, ct⟩ σ H := by
  refine ⟨_, hj, l, xs, rfl, h, for_it walk_enum Pv h0 (fun i σ H _ p => hl i σ H p) (fun i x σ H H' hi p y => ?_) hd⟩
  obtain ⟨T, x1, x2, rfl, hT, rfl, e1, e2⟩ := y
  cases Option.some.inj e1
  exact ⟨T, [.int (i : Nat), x2], rfl, .inl (.inl upd_same), rfl, _, _, rfl, _, _, rfl, rfl, hs i x2 σ H _ e2 p (Sk.of hT)⟩
/-- a value reckoned without a change of the heap -/
def Pu (te : TE) (σ : L2.St) (H : Hp) (v : V) : Prop := ∀ Q : VK, Q v H → te σ H Q
def PuT (tt : TT) (σ : L2.St) (H : Hp) (b : Bool) : Prop := ∀ Q : Bool → Hp → Prop, Q b H → tt σ H Q
theorem rd_andP {b1 b2 : Bool} (h1 : Pu ta σ H (.bl b1)) (h2 : b1 = true → Pu tb σ H (.bl b2)) (k : Q (.bl (b1 && b2)) H) : tAndV ta tb σ H Q :=
  h1 _ ⟨b1, rfl, by cases b1 with
    | true => exact rd_T (h2 rfl _ k)
    | false => exact rd_F k⟩
theorem rd_orP {b1 b2 : Bool} (h1 : Pu ta σ H (.bl b1)) (h2 : b1 = false → Pu tb σ H (.bl b2)) (k : Q (.bl (b1 || b2)) H) : tOrV ta tb σ H Q :=
  h1 _ ⟨b1, rfl, by cases b1 with
    | true => exact rd_T k
    | false => exact rd_F (h2 rfl _ k)⟩
theorem rd_pu (h : Pu te σ H v) (k : Q v H) : te σ H Q := h Q k
theorem rd_cut (Mid : L2.St → Hp → Prop) (h1 : t ⟨Mid, rt, bk, ct⟩ σ H) (h2 : ∀ σ' H', Mid σ' H' → u ⟨n, rt, bk, ct⟩ σ' H') : Evl.tCut t u ⟨n, rt, bk, ct⟩ σ H := ⟨Mid, h1, h2⟩
theorem rd_gn {i : Nat} {Q : L2.St → Hp → Prop} (k : Q (σ.set i (some v)) H) : gName i v σ H Q := k
end
theorem paired_map {α β γ : Type} {R : β → γ → Prop} {f : α → β} {g : α → γ} : ∀ {l : List α}, (∀ x ∈ l, R (f x) (g x)) → Paired R (l.map f) (l.map g)
  | [], _ => .nil
  | x :: l, h => .cons (h x List.mem_cons_self) (paired_map fun y hy => h y (List.mem_cons_of_mem _ hy))
theorem erase_perm {α : Type} {l : List α} {i : Nat} (h : i < l.length) : (l[i] :: l.eraseIdx i).Perm l := by
  rw [List.eraseIdx_eq_take_drop_succ]
  have e : l.take i ++ l[i] :: l.drop (i + 1) = l := by rw [List.getElem_cons_drop h, List.take_append_drop]
  exact (List.perm_middle.symm).trans (by rw [e])
theorem map_erase {α β : Type} (f : α → β) (l : List α) (i : Nat) : (l.map f).eraseIdx i = (l.eraseIdx i).map f := by
  rw [List.eraseIdx_eq_take_drop_succ, List.eraseIdx_eq_take_drop_succ, List.map_append, List.map_take, List.map_drop]
theorem szl {n : Nat} (h : Nat.ble n 100000 = true := by rfl) : n ≤ sizeLine := Nat.le_trans (Nat.le_of_ble_eq_true h) (by decide)
theorem szn {n : Nat} (h : n ≤ 100000) : n ≤ sizeLine := Nat.le_trans h (by decide)
theorem szn' {n : Nat} (h : n < 100000) : n < sizeLine := Nat.lt_of_lt_of_le h (by decide)
theorem ixN_nat {n j : Nat} (hj : j < n) : ixN n (j : Int) = some j := by
  unfold ixN
  rw [if_pos (by omega), if_pos (by omega)]
  simp
theorem ixN_int {n : Nat} {i : Int} (h0 : 0 ≤ i) (h : i < n) : ixN n i = some i.toNat := by
  unfold ixN
  rw [if_pos h0, if_pos h]
theorem atI_int {α : Type} {xs : List α} {i : Int} (h0 : 0 ≤ i) (h : i < xs.length) : atI xs i = some (xs[i.toNat]'(by omega)) := by
  obtain ⟨j, rfl⟩ := Int.eq_ofNat_of_zero_le h0
  exact atI_nat (List.getElem?_eq_getElem (by omega))
theorem atI_ex {α : Type} {xs : List α} {i : Int} (h0 : 0 ≤ i) (h : i < xs.length) : ∃ x ∈ xs, atI xs i = some x := ⟨_, List.getElem_mem _, atI_int h0 h⟩

/-! ### None, or a text; sets of texts -/
def ov : Option Str → V
  | none => .non
  | some z => .str z
theorem setOf_none {P : Program} {w : World} {h : Heap} {a : Addr} {S : Key → Bool} {n : Nat} (R : h.SetOf (mixKind P w) a S n) : h.SetOf (noneKind P w) a (fun o => match o with | none => false | some k => S k) n := by
  obtain ⟨o, es, ep, t, ho, hx, hd, el, mem, b, f, z⟩ := R
  refine ⟨o, es, ep, t, ho, hx, hd, fun e he => ?_, fun k => ?_, b, f, z⟩
  · obtain ⟨⟨k, h1, h2⟩, h3⟩ := el e he
    exact ⟨⟨some k, h1, h2⟩, h3⟩
  · cases k with
    | some k => exact mem k
    | none =>
      refine ⟨fun q => (by cases q), fun ⟨e, he, q⟩ => ?_⟩
      obtain ⟨⟨k, h1, _⟩, _⟩ := el e he
      have h1 : keyIs k e.2 = true := h1
      rw [nk_none q] at h1
      exact absurd h1 (keyIs_none k)
def inO (S : Key → Bool) : Option Str → Bool
  | none => false
  | some z => S (.inr z)
/-- x in s, x None or a text -/
def rInO (P : Program) (w : World) : R2 := fun x y H Q => ∃ (o : Option Str) (a : Addr) (S : Key → Bool) (n : Nat), x = ov o ∧ y = V.ref a ∧ H a = some (SetK P w a S n) ∧ Q (.bl (inO S o)) H
theorem or_inO {X : Cx} : OpR X (compareOp .In) (rInO X.prog X.w) := by
  intro pins s σ H x y v u Q I rx ry h
  obtain ⟨o, a, S, n, rfl, rfl, ha, q⟩ := h
  cases ry
  cases o with
  | none =>
    cases (show v = Value.none from rx)
    exact wpAny_inSet_of (knd := noneKind X.prog X.w) (k := none) rfl rfl (setOf_none (setK_get I ha)) ⟨.bl false, H, I.tok _, rfl, q⟩
  | some z => exact wpAny_inSet_of (knd := mixKind X.prog X.w) (k := .inr z) (kV_is (k := .inr z) rx) (key_scan (k := .inr z) rx) (setK_get I ha) ⟨.bl (S (.inr z)), H, I.tok _, rfl, q⟩
/-- a dict comprehension over what walks -/
theorem dc_it {J : It} {n : Nat} {G : Hp → Prop} {Y : Nat → Hp → V → Hp → Prop} (w : Walk J n G Y) {g : TG} {tt : TT} {tk tv : TE} {vs : List Nat} {σ : L2.St} {H1 : Hp} {D : Addr} {Qd : Hp → Prop} (Pv : Nat → Hp → Prop) (h0 : Pv 0 (upd H1 D (.dK []))) (hG : ∀ i H, i ≤ n → Pv i H → G H)
    (hs : ∀ i x H H', i < n → Pv i H → Y i H x H' → g x (wipe σ vs) H' fun σ2 H2 => wipe σ2 vs = wipe σ vs ∧ tt σ2 H2 fun b H3 =>
      if b = true then tk σ2 H3 fun y H4 => tv σ2 H4 fun z H5 => ∃ kvs k, y = kV k ∧ H5 D = some (.dK kvs) ∧ kvs.length < sizeLine ∧ Pv (i + 1) (upd H5 D (.dK (putK kvs k z))) else Pv (i + 1) H3) (hd : ∀ H, Pv n H → Qd H) :
    ∃ W : Nat → Nat → Hp → Prop, (∃ m, W 0 m (upd H1 D (.dK []))) ∧ ∀ i m H, W i m H →
      (J.stop i H ∧ Qd H) ∨ (J.go i H ∧ ∃ Nx : Hp → Prop, (∀ H', Nx H' → ∃ m', m' < m ∧ W (i + 1) m' H') ∧ ∀ x H', J.yld i H x H' → g x (wipe σ vs) H' fun σ2 H2 => wipe σ2 vs = wipe σ vs ∧ tt σ2 H2 fun b H3 =>
        if b = true then tk σ2 H3 fun y H4 => tv σ2 H4 fun z H5 => ∃ kvs k, y = kV k ∧ H5 D = some (.dK kvs) ∧ kvs.length < sizeLine ∧ Nx (upd H5 D (.dK (putK kvs k z))) else Nx H3) := by
  refine ⟨fun i m H => m + i = n ∧ Pv i H, ⟨n, rfl, h0⟩, fun i m H hw => ?_⟩
  obtain ⟨e, p⟩ := hw
  by_cases hlt : i < n
  · exact .inr ⟨w.goes i H hlt (hG i H (by omega) p), Pv (i + 1), fun H' p' => ⟨m - 1, by omega, by omega, p'⟩, fun x H' y => hs i x H H' hlt p (w.yields i H x H' hlt (hG i H (by omega) p) y)⟩
  · have e2 : i = n := by omega
    rw [e2] at p ⊢
    exact .inl ⟨w.stops H (hG n H (Nat.le_refl _) p), hd H p⟩

/-! ### classes and methods of the text -/
structure Mr (P : Program) (w : World) (K : PySem.W.Frag) (mg : Str → Option Value) (base : Heap) (k : Nat) (x : Str) (C : Addr) (sp : Sp) : Prop where
  ex : ∃ (f : Addr) (fd : FuncData) (ps : List Str), Mk K C f ∧ FnOk P w K mg base CX0 k f fd ps sp ∧ mg x = some (.ref C) ∧ Binds K fd ps []
structure Mt (P : Program) (w : World) (K : PySem.W.Frag) (mg : Str → Option Value) (base : Heap) (k : Nat) (C : Addr) (m : Str) (sp : Sp) : Prop where
  ex : ∃ (f : Addr) (fd : FuncData) (ps : List Str), Cls K C ∧ Meth K C m f ∧ FnOk P w K mg base CX0 k f fd ps sp ∧ Binds K fd ps []
section
variable {X : Cx} {k j : Nat} {C : Addr} {x m : Str} {sp : Sp} {p pos apos : Pos} {e o : Expr} {es : List Expr} {ta : TE} {t : TA}
theorem pe_mr (c : Mr X.prog X.w X.K X.mg X.base k x C sp) (hr : Room j X.A) (hk : k + 1 ≤ j) (hg : Gl X x) (ha : PA X (e :: es) t)
    (hdb : (x == ("__debug__" : Str)) = false := by decide) (he : starEach (e :: es) X.env = (false, eval e X.env) :: starEach es X.env := by rfl) (hpl : (backTo pos (starEach es X.env)).any (·.1) = false := by rfl) :
    PE X (.Call (.Name x p) (e :: es) [] pos) (tMake C sp [] E0 t) := by
  obtain ⟨f, fd, ps, M, F, hm, b⟩ := c.ex
  exact pe_make M F (hr.mono hk) hg hm b .nil pass0 ha hdb he hpl
theorem pe_me {pl : Sem Bool} (c : Mt X.prog X.w X.K X.mg X.base k C m sp) (hr : Room j X.A) (hk : k ≤ j) (he : PE X o ta) (ha : PA X (e :: es) t)
    (hst : starEach (e :: es) X.env = (false, eval e X.env) :: starEach es X.env := by rfl) (hpl : (backTo pos (starEach es X.env)).any (·.1) = false := by rfl)
    (ht : eval (.Call (.Attribute o m apos) (e :: es) [] pos) X.env = (do
      let ov ← eval o X.env
      standAt apos.atName
      let (f, first) ← holding [ov] (getMethod ov m pl)
      callWith pos f first (backTo pos (starEach (e :: es) X.env)) (backToKw pos (keywordEach [] X.env))) := by rfl) :
    PE X (.Call (.Attribute o m apos) (e :: es) [] pos) (tMeth C m sp [] E0 ta t) := by
  obtain ⟨f, fd, ps, hc, hm, F, b⟩ := c.ex
  exact pe_meth (pl := pl) he hc hm F (hr.mono hk) b .nil pass0 ha hst hpl ht
theorem pe_me0 {pl : Sem Bool} (c : Mt X.prog X.w X.K X.mg X.base k C m sp) (hr : Room j X.A) (hk : k ≤ j) (he : PE X o ta)
    (ht : eval (.Call (.Attribute o m apos) [] [] pos) X.env = (do
      let ov ← eval o X.env
      standAt apos.atName
      let (f, first) ← holding [ov] (getMethod ov m pl)
      callWith pos f first (backTo pos (starEach [] X.env)) (backToKw pos (keywordEach [] X.env))) := by rfl) :
    PE X (.Call (.Attribute o m apos) [] [] pos) (tMeth C m sp [] E0 ta tNil) := by
  obtain ⟨f, fd, ps, hc, hm, F, b⟩ := c.ex
  exact pe_meth0 (pl := pl) he hc hm F (hr.mono hk) b .nil pass0 ht
end
section
variable {σ : L2.St} {H : Hp} {Q : VK} {ta tv te : TE} {t : TA} {n bk ct : L2.St → Hp → Prop} {rt : VK} {K : PySem.W.Frag} {C : Addr} {sp : Sp} {E : XK} {m f : Str} {wi : TI} {g : TG} {tt : TT} {tk : TE} {vs : List Nat}
theorem rd_make (k : t σ H fun vs H1 => ∀ x dx, H1 x = none → H1 dx = none → dx ≠ x → sp (.ref x :: (vs ++ [])) (upd (upd H1 dx (.own x)) x (.ins C dx [])) (fun v H2 => v = .non ∧ Q (.ref x) H2) E) : tMake C sp [] E t σ H Q := k
theorem rd_meth (k : ta σ H fun x H1 => ∃ a dx fs, x = .ref a ∧ H1 a = some (.ins C dx fs) ∧ fs.lookup m = none ∧ t σ H1 fun vs H2 => sp (x :: (vs ++ [])) H2 Q E) : tMeth C m sp [] E ta t σ H Q := k
theorem rd_fld (k : ta σ H fun x H1 => ∃ a C dx fs v, x = .ref a ∧ H1 a = some (.ins C dx fs) ∧ Cls K C ∧ NoAttr K C f ∧ fs.lookup f = some v ∧ Q v H1) : tFld K ta f σ H Q := k
theorem rd_sfld (k : tv σ H fun y H1 => ta σ H1 fun x H2 => ∃ a C dx fs, x = .ref a ∧ H2 a = some (.ins C dx fs) ∧ Cls K C ∧ NoAttr K C f ∧ fs.length < 1000 ∧ n σ (upd H2 a (.ins C dx (putF f y fs)))) : sFld K ta tv f ⟨n, rt, bk, ct⟩ σ H := k
theorem rd_dc (k : wi σ H fun J H1 => ∀ D, H1 D = none → ∃ W : Nat → Nat → Hp → Prop, (∃ m, W 0 m (upd H1 D (.dK []))) ∧ ∀ i m H, W i m H →
  (J.stop i H ∧ Q (.ref D) H) ∨ (J.go i H ∧ ∃ Nx : Hp → Prop, (∀ H', Nx H' → ∃ m', m' < m ∧ W (i + 1) m' H') ∧ ∀ x H', J.yld i H x H' → g x (wipe σ vs) H' fun σ2 H2 => wipe σ2 vs = wipe σ vs ∧ tt σ2 H2 fun b H3 =>
    if b = true then tk σ2 H3 fun y H4 => tv σ2 H4 fun z H5 => ∃ kvs k, y = kV k ∧ H5 D = some (.dK kvs) ∧ kvs.length < sizeLine ∧ Nx (upd H5 D (.dK (putK kvs k z))) else Nx H3)) : tDc wi g tt tk tv vs σ H Q := k
theorem rd_items (k : te σ H fun x H1 => LiI.rItemsL x H1 Q) : LiI.tListItems te σ H Q := k
theorem rd_sadd {P : Program} {w : World} (k : ta σ H fun x H1 => (∃ a S n, x = V.ref a ∧ H1 a = some (SetK P w a S n)) ∧ t σ H1 fun xs H2 => rSAddK P w x xs H2 Q) : tSAddK P w ta t σ H Q := k
theorem rd_ivals {td : TE} {R : It → Hp → Prop} (k : td σ H fun x H1 => ∃ d o kvs, x = .ref d ∧ H1 d = some (.frz o (.dK kvs)) ∧ R (Itd d o kvs) H1) : iVals td σ H R := k
end
/-! ### data, the same at two places -/
theorem ex_same {K : PySem.W.Frag} {H H' : Hp} (k : Same H H') {a : Addr} {xs : List V} (h : SqT K H a xs) : SqT K H' a xs := by
  rcases h with (h | ⟨o, h⟩) | h
  · exact .inl (.inl (k _ _ h))
  · exact .inl (.inr ⟨o, k _ _ h⟩)
  · exact .inr h
mutual
theorem dp_kp {K : PySem.W.Frag} {H H' : Hp} (k : Same H H') : ∀ (d : PyData) (v : V), Dp K H v d → Dp K H' v d
  | .none, _, h => by cases h; exact .non
  | .bool b, _, h => by cases h; exact .bl b
  | .int i, _, h => by cases h; exact .int i
  | .str x, _, h => by cases h; exact .str x
  | .list ds, _, h => by
    cases h with
    | lst hs ha => exact .lst (k.seq hs) (dpa_kp k ds _ ha)
  | .tuple ds, _, h => by
    cases h with
    | tup hs ha => exact .tup (ex_same k hs) (dpa_kp k ds _ ha)
  | .dict _, _, h => by cases h
theorem dpa_kp {K : PySem.W.Frag} {H H' : Hp} (k : Same H H') : ∀ (ds : List PyData) (vs : List V), DpAll K H vs ds → DpAll K H' vs ds
  | [], _, h => by cases h; exact .nil
  | d :: ds, _, h => by
    cases h with
    | cons h1 h2 => exact .cons (dp_kp k d _ h1) (dpa_kp k ds _ h2)
end
theorem dpa_len {K : PySem.W.Frag} {H : Hp} : ∀ {ds : List PyData} {vs : List V}, DpAll K H vs ds → vs.length = ds.length
  | [], _, h => by cases h; rfl
  | d :: ds, _, h => by
    cases h with
    | cons h1 h2 => rw [List.length_cons, List.length_cons, dpa_len h2]
theorem dpa_get {K : PySem.W.Frag} {H : Hp} : ∀ {ds : List PyData} {vs : List V}, DpAll K H vs ds → ∀ {i : Nat} {x : V} {d : PyData}, vs[i]? = some x → ds[i]? = some d → Dp K H x d
  | [], _, h, i, x, d, hx, hd => by cases hd
  | e :: ds, _, h, i, x, d, hx, hd => by
    cases h with
    | cons h1 h2 =>
      cases i with
      | zero => cases hx; cases hd; exact h1
      | succ i => exact dpa_get h2 hx hd
theorem dpa_of {K : PySem.W.Frag} {H : Hp} {α : Type} {f : α → V} {g : α → PyData} : ∀ {l : List α}, (∀ x ∈ l, Dp K H (f x) (g x)) → DpAll K H (l.map f) (l.map g)
  | [], _ => .nil
  | x :: l, h => .cons (h x List.mem_cons_self) (dpa_of fun y hy => h y (List.mem_cons_of_mem _ hy))
theorem ty_list {K : PySem.W.Frag} {H : Hp} {a : Addr} {xs : List V} (h : SqL K H a xs) : TyX K H (.ref a) (.type "list") := by
  rcases h with (h | ⟨o, h⟩) | ⟨o, its, n, e, c, _⟩
  · exact .base (.lst h)
  · exact .base (.frz h)
  · exact .kList e c
theorem ty_tuple {K : PySem.W.Frag} {H : Hp} {a : Addr} {xs : List V} (h : SqT K H a xs) : TyX K H (.ref a) (.type "tuple") := by
  rcases h with (h | ⟨o, h⟩) | ⟨o, its, n, e, c, _⟩
  · exact .base (.tup h)
  · exact .fTuple h
  · exact .kTuple e c
def tyOf : PyData → String
  | .none => "NoneType"
  | .bool _ => "bool"
  | .int _ => "int"
  | .str _ => "str"
  | .list _ => "list"
  | .tuple _ => "tuple"
  | .dict _ => "dict"
theorem ty_dp {K : PySem.W.Frag} {H : Hp} {v : V} {d : PyData} (h : Dp K H v d) : TyX K H v (.type (tyOf d)) := by
  cases h with
  | non => exact .base .non
  | bl b => exact .base (.bl b)
  | int i => exact .base (.int i)
  | str x => exact .base (.str x)
  | lst hs _ => exact ty_list hs
  | tup hs _ => exact ty_tuple hs
/-- data of at most n levels, lists and tuples short -/
def Sm : Nat → PyData → Prop
  | _, .none => True
  | _, .bool _ => True
  | _, .int _ => True
  | _, .str z => PyData.strOk z = true
  | n + 1, .list ds => ds.length ≤ 1000 ∧ ∀ e ∈ ds, Sm n e
  | n + 1, .tuple ds => ds.length ≤ 1000 ∧ ∀ e ∈ ds, Sm n e
  | _, _ => False
theorem walk_zipT {K : PySem.W.Frag} {a b : Addr} {xs ys : List V} {n : Nat} (hn : n = min xs.length ys.length) : Walk (RZ.ItzT K a b) n (fun H => SqT K H a xs ∧ SqT K H b ys) (YPair (fun i => xs[i]?) (fun i => ys[i]?)) := by
  subst hn
  refine ⟨fun i H hi q => ⟨xs, ys, xs[i]'(by omega), ys[i]'(by omega), q.1, q.2, List.getElem?_eq_getElem _, List.getElem?_eq_getElem _⟩, fun H q => ⟨xs, ys, q.1, q.2, by omega⟩, fun i H v H' hi q y => ?_⟩
  obtain ⟨T, x, y, h1, h2, h3, h4, h5⟩ := y
  exact ⟨T, x, y, h1, h2, h3, h4 xs q.1, h5 ys q.2⟩
/-! ### built-in names that the module leaves -/
structure Blt (mg : Str → Option Value) : Prop where
  len : mg "len" = none
  isinstance : mg "isinstance" = none
  str : mg "str" = none
  all : mg "all" = none
  enumerate : mg "enumerate" = none
  range : mg "range" = none
  bool : mg "bool" = none
  tuple : mg "tuple" = none
  dict : mg "dict" = none
  list : mg "list" = none
  sorted : mg "sorted" = none
  set : mg "set" = none
  zip : mg "zip" = none
  int : mg "int" = none
  min : mg "min" = none
  repr : mg "repr" = none
  ValueError : mg "ValueError" = none
  super : mg "super" = none
theorem blt_mk {K : PySem.W.Frag} {h : Heap} {mg : Str → Option Value} (X : K.In h) (G : h.Ns mainGlobals mg)
    (z1 : PySem.W.nsIn K mainGlobals "len" = some none) (z2 : PySem.W.nsIn K mainGlobals "isinstance" = some none) (z3 : PySem.W.nsIn K mainGlobals "str" = some none) (z4 : PySem.W.nsIn K mainGlobals "all" = some none)
    (z5 : PySem.W.nsIn K mainGlobals "enumerate" = some none) (z6 : PySem.W.nsIn K mainGlobals "range" = some none) (z7 : PySem.W.nsIn K mainGlobals "bool" = some none) (z8 : PySem.W.nsIn K mainGlobals "tuple" = some none)
    (z9 : PySem.W.nsIn K mainGlobals "dict" = some none) (z10 : PySem.W.nsIn K mainGlobals "list" = some none) (z11 : PySem.W.nsIn K mainGlobals "sorted" = some none) (z12 : PySem.W.nsIn K mainGlobals "set" = some none)
    (z13 : PySem.W.nsIn K mainGlobals "zip" = some none) (z14 : PySem.W.nsIn K mainGlobals "int" = some none) (z15 : PySem.W.nsIn K mainGlobals "min" = some none) (z16 : PySem.W.nsIn K mainGlobals "repr" = some none)
    (z17 : PySem.W.nsIn K mainGlobals "ValueError" = some none) (z18 : PySem.W.nsIn K mainGlobals "super" = some none) : Blt mg :=
  ⟨PySem.W.mg_none_of X G z1, PySem.W.mg_none_of X G z2, PySem.W.mg_none_of X G z3, PySem.W.mg_none_of X G z4, PySem.W.mg_none_of X G z5, PySem.W.mg_none_of X G z6, PySem.W.mg_none_of X G z7, PySem.W.mg_none_of X G z8, PySem.W.mg_none_of X G z9,
   PySem.W.mg_none_of X G z10, PySem.W.mg_none_of X G z11, PySem.W.mg_none_of X G z12, PySem.W.mg_none_of X G z13, PySem.W.mg_none_of X G z14, PySem.W.mg_none_of X G z15, PySem.W.mg_none_of X G z16, PySem.W.mg_none_of X G z17, PySem.W.mg_none_of X G z18⟩
end Nn

namespace Nn
open PySem PySem.Spec PyProof.Rows L2
/-! ### an error that is caught and kept -/
/-- an error of the class cls, its dict d, at a -/
def ExH (cls : Value) (d : Option Addr) (a : Addr) : HO := .ext fun h => ∃ (o : Obj) (fs : Array Value), h.get? a = some o ∧ Zc cls d o ∧ o.data = .fields fs
theorem exH_ok {P : Program} {w : World} {H : Hp} {h : Heap} {a : Addr} {cls : Value} {d : Option Addr} {o : Obj} {fs : Array Value} (e : h.get? a = some o) (z : Zc cls d o) (f : o.data = .fields fs) : ObjOk P w H h a (ExH cls d a) :=
  ⟨⟨o, fs, e, z, f⟩, ⟨o, e⟩, fun _ _ ⟨o, v, q, r⟩ k => ⟨o, v, k o q, r⟩⟩
section
variable {X : Cx} {pins : List (Addr × Obj)} {σ : L2.St} {H : Hp} {s : Shared}
/-- an object that stands already is tracked from now on; it is newer than the def's entry -/
theorem inv_track {a : Addr} {φ : Heap → Prop} (I : Inv X pins σ H s) (h0 : X.s_0.heap.get? a = none) (na : H a = none) (nL : a ≠ X.env.locals) (nC : ∀ x c, X.env.cells.lookup x = some c → c ≠ a) (nP : ∀ p ∈ X.pn ++ pins, p.1 ≠ a) (new : ObjOk X.prog X.w H s.heap a (.ext φ)) :
    Inv X pins σ (upd H a (.ext φ)) s := by
  have old : ∀ {b : Addr} {o : HO}, H b = some o → upd H a (.ext φ) b = some o := fun {b o} e => by rw [upd_ne (ne_of_none e na)]; exact e
  have non : ∀ {b : Addr}, H b = none → b ≠ a → upd H a (.ext φ) b = none := fun {b} e n => by rw [upd_ne n]; exact e
  refine ⟨I.ok, I.os, I.bare, ⟨I.base.keep, I.base.slot, fun b o e n x => non (I.base.free b o e n x) (fun q => by rw [q, h0] at e; cases e), I.base.there, fun b xs q => old (I.base.tups b xs q), fun b o u q => old (I.base.frzs b o u q), fun b ps q => ?_⟩, I.loc, I.cell, non I.free (Ne.symm nL), fun x c e => non (I.freeC x c e) (nC x c e), fun p hp => ?_, fun b o e => ?_, I.len⟩
  · obtain ⟨m, r⟩ := I.base.tbls b ps q
    exact ⟨m, old r⟩
  · obtain ⟨p1, p2, p3, p4, p5⟩ := I.pin p hp
    exact ⟨p1, non p2 (nP p hp), p3, p4, p5⟩
  · by_cases hb : b = a
    · subst hb
      rw [upd_same] at e
      cases e
      exact new
    · rw [upd_ne hb] at e
      exact (I.hok b o e).stay (fun _ _ _ q => q) (fun _ q => old q) fun _ _ q => old q
end
/-- the wish of a body whose errors are all caught and kept: slot i is the clause's name -/
def wKeep (K : PySem.W.Frag) (c : Value) (i : Nat) (ts : Addr → Value → Option Addr → TS) (D : Ends) : WX := fun cls d σ H =>
  PySem.W.exmOne K cls c = some true ∧ ∀ a, H a = none → ts a cls d { nx := fun σ' H' => H' a = none → D.nx (σ'.set i none) (upd H' a (ExH cls d a)), rt := fun _ _ => False, bk := fun _ _ => False, ct := fun _ _ => False } (σ.set i (some (.ref a))) H
section
variable {X : Cx} {x n : Str} {c : Value} {i : Nat} {body suite : List Stmt} {b₀ : Stmt} {np pos pos' : Pos} {tb : WX → TS} {ts : Addr → Value → Option Addr → TS}
theorem ps_try_keep (hs : X.stack = X.env :: X.outer) (hf : X.env.frame = some X.env.locals) (hN : X.N.Nodup) (hi : X.N[i]? = some n) (hln : X.env.kindOf n = some .local) (hc : Names X x c) (hex : X.ex = [])
    (hb : ∀ (W : WX) (pn : List (Addr × Obj)) (xe : Value → Shared → Prop), Takes (X.tr pn xe) W → PassesOwn (model X.prog X.w) X.A X.env xe → PSs (X.tr pn xe) body (tb W))
    (hsu : ∀ (a : Addr) (oe : Obj) (cls : Value) (d : Option Addr) (pn : List (Addr × Obj)), Zc cls d oe → (∃ vs, oe.data = .fields vs) → PSs (X.suite a ((a, oe) :: pn)) (b₀ :: suite) (ts a cls d)) :
    PS X (.Try body [.ExceptHandler (some (.Name x np)) (some n) (b₀ :: suite) pos'] [] [] pos) (fun D σ H => tb (wKeep X.K c i ts D) D σ H) := by
  refine ⟨fun pins s σ H D I h => wpAny_Try_except ?_⟩
  have frm : X.A.frames = some (X.env :: X.outer) := I.ok.frames.trans (congrArg some hs)
  refine wpAny_mono ((hb (wKeep X.K c i ts D) (X.pn ++ pins) _ ?take PassesOwn.looking).run [] s σ H D (I.toTry _) h) (fun r t pr => ?thru) (fun _ _ z => z)
  case thru =>
    have back : ∀ {w : Value → Shared → Prop} {σ' : L2.St} {H' : Hp}, Inv (X.tr (X.pn ++ pins) w) [] σ' H' t → Inv X pins σ' H' t := fun J => J.ofTry I.ok
    cases r with
    | next => obtain ⟨_, _, J, q⟩ := pr; exact wpAny_execs_nil ⟨_, _, back J, q⟩
    | ret u => obtain ⟨_, _, _, J, ru, q⟩ := pr; exact ⟨_, _, _, back J, ru, q⟩
    | brk => obtain ⟨_, _, J, q⟩ := pr; exact ⟨_, _, back J, q⟩
    | cont => obtain ⟨_, _, J, q⟩ := pr; exact ⟨_, _, back J, q⟩
  case take =>
    rintro u t ⟨a, G, sI, pn', τ, H1, cls, d, rfl, J0, grd, lv, air, na, eos, gb, hm, hsuite⟩
    have J : Inv X pins τ H1 sI := J0.ofTry I.ok
    have air : Sky G (X.env :: X.outer) a (Zc cls d) X.env.locals t.heap := hs ▸ air
    refine Sky.land Zc.steady frm hf air fun g1 fly up1 => ?_
    obtain ⟨o1, f1, e1, z1, d1⟩ := fly.there
    -- the error is no frame, and new
    have aF : a ∉ frs (X.env :: X.outer) := fun hm' => by
      obtain ⟨_, o, e, no⟩ := fly.2.2.1.mem hm'
      rw [e1] at e
      cases e
      exact no _ d1
    have aL : a ≠ X.env.locals := fun q => aF (List.mem_filterMap.mpr ⟨X.env, List.mem_cons_self, hf.trans (congrArg some q.symm)⟩)
    have aS : a ∉ X.fs := fun q => by
      obtain ⟨e, he, r⟩ := List.mem_filterMap.mp q
      exact aF (List.mem_filterMap.mpr ⟨e, List.mem_cons_of_mem _ he, r⟩)
    have aI : sI.heap.get? a = none := by
      cases q : sI.heap.get? a with
      | none => rfl
      | some o =>
        have q2 := grd a o q (hs ▸ aF)
        rw [fly.2.1] at q2
        cases q2
    have a0 : X.s_0.heap.get? a = none := by
      cases q : X.s_0.heap.get? a with
      | none => rfl
      | some o =>
        obtain ⟨o', q2⟩ := J.base.there a o q (by rw [hex]; simp)
        rw [aI] at q2
        cases q2
    have aC : ∀ y k, X.env.cells.lookup y = some k → k ≠ a := fun y k e q => by
      obtain ⟨v, o, q2, _⟩ := J.cell y k e
      rw [q, aI] at q2
      cases q2
    have aP : ∀ p ∈ X.pn ++ pins, p.1 ≠ a := fun p hp q => by
      have q2 := (J.pin p hp).1
      rw [q, aI] at q2
      cases q2
    have J1 : Inv X pins τ H1 { t with heap := g1 } := J.landed grd fly.1 (lv.trans up1) eos gb
    have S1 := J1.suite e1 d1 na aL aS
    have looks : PySem.W.Looks (model X.prog X.w) g1 (typeOf (.ref a)) cls := fun _ _ _ _ k q => wpAny_typeOf_ref (k _ _ e1) (by rw [z1.1]; exact q)
    have matched := PySem.W.exm_one (M := model X.prog X.w) J1.kIn looks hm
    -- the clause names the class
    refine wpAny_handleBy_cons (codeAny_handlers_test ?_) (by intro q; cases q)
    have clause : ∀ {Q : Value → Shared → Prop} {E : Value → Shared → Prop}, Q c { t with heap := g1 } → wpAny (model X.prog X.w) (X.A.mark (some (.ref a))) (eval (.Name x np) X.env) Q E { t with heap := g1 } := fun q => by
      rcases hc with ⟨hg, hd, hv | ⟨hv, hbt, hne⟩⟩
      · exact ld_glob (X := X.suite a ((a, o1) :: (X.pn ++ pins))) S1 hg hv q hd
      · exact ld_blt (X := X.suite a ((a, o1) :: (X.pn ++ pins))) S1 hg hv hbt q hne hd
    refine clause (matched.here (codeAny_handlers_suite_as (HandSPX.lands_againZ fly fun g2 fly2 up2 => ?_)))
    obtain ⟨o2, f2, e2, z2, d2⟩ := fly2.there
    have J2 : Inv X pins τ H1 { t with heap := g2 } := J.landed grd fly2.1 ((lv.trans up1).trans up2) eos gb
    -- the suite, then the name goes; the error stays
    refine store_ok (X := X.suite a ((a, o2) :: (X.pn ++ pins))) (v := .ref a) (J2.suite e2 d2 na aL aS) hN hi (.inl hln) rfl (fun s5 S5 => ?_) (.inr hln)
    refine wpAny_mono ((hsu a o2 cls d (X.pn ++ pins) z2 ⟨_, d2⟩).run [] s5 _ H1 _ S5 (hsuite a na)) (fun fl s6 pr => ?_) (fun _ _ q => False.elim q)
    cases fl with
    | next =>
      obtain ⟨τ6, H6, S6, q6⟩ := pr
      obtain ⟨p1, p2, _⟩ := S6.pin (a, o2) (List.mem_append_left _ List.mem_cons_self)
      exact gone_ok (inv_track (S6.unsuite I.ok) a0 p2 aL aC aP (exH_ok p1 z2 d2)) hN hi hln fun s7 J7 => ⟨_, _, J7, q6 p2⟩
    | ret u => obtain ⟨_, _, _, _, _, q⟩ := pr; exact q.elim
    | brk => obtain ⟨_, _, _, q⟩ := pr; exact q.elim
    | cont => obtain ⟨_, _, _, q⟩ := pr; exact q.elim
end
/-! ### a kept error: isinstance, a field -/
/-- how a kept error stands: its class C, its dict -/
inductive ErrAt (H : Hp) (a C : Addr) : Option Addr → List (Str × V) → Prop where
  | bare (h : H a = some (ExH (.ref C) none a)) : ErrAt H a C none []
  | own {d : Addr} {fs : List (Str × V)} (h : H a = some (ExH (.ref C) (some d) a)) (hd : H d = some (.xd fs)) : ErrAt H a C (some d) fs
theorem ErrAt.inst {X : Cx} {pins : List (Addr × Obj)} {σ : L2.St} {H : Hp} {s : Shared} {a C : Addr} {d : Option Addr} {fs : List (Str × V)} (I : Inv X pins σ H s) (h : ErrAt H a C d fs) : ∃ o od, PySem.W.InstAt s.heap a o C od := by
  cases h with
  | bare h =>
    obtain ⟨⟨o, vs, e, z, f⟩, _⟩ := (show ObjOk X.prog X.w H s.heap a (ExH (.ref C) none a) from I.hok a _ h)
    exact ⟨o, none, e, z.1, by unfold PySem.W.notCls; rw [f] <;> rfl, by rw [z.2] <;> trivial⟩
  | @own d fs h hd =>
    obtain ⟨⟨o, vs, e, z, f⟩, _⟩ := (show ObjOk X.prog X.w H s.heap a (ExH (.ref C) (some d) a) from I.hok a _ h)
    obtain ⟨m, hns, _⟩ := (show ObjOk X.prog X.w H s.heap d (.xd fs) from I.hok d _ hd)
    obtain ⟨od, ho, _⟩ := lookIn_ns hns
    exact ⟨o, some od, e, z.1, by unfold PySem.W.notCls; rw [f] <;> rfl, by rw [z.2]; exact ho⟩
/-- isinstance(e, c), e a kept error -/
def rIsH (K : PySem.W.Frag) : List V → Hp → VK → Prop := fun xs H Q => ∃ (a C : Addr) (d : Option Addr) (fs : List (Str × V)) (c : V) (u : Value) (b : Bool), xs = [.ref a, c] ∧ ClsV c u ∧ ErrAt H a C d fs ∧ ExcC K C ∧ PySem.W.kitOne K (.ref C) u = some b ∧ Q (.bl b) H
theorem call_isH {X : Cx} : CallR X (.builtin "isinstance") (rIsH X.K) := by
  intro pins s σ H xs us Q I r h
  obtain ⟨a, C, d, fs, c, u, b, rfl, k, hE, hC, e, q⟩ := h
  obtain ⟨u1, u2, rfl, r1, r2⟩ := vals2 r
  obtain rfl := k.eq r2
  cases (show u1 = Value.ref a from r1)
  obtain ⟨o, od, J⟩ := hE.inst I
  obtain ⟨cd, hcd, _⟩ := PySem.W.any_some hC.hd
  exact PySem.W.kia_one (PySem.W.kitx_exc (by rw [hcd]; rfl) hC.hg hC.hk hC.hs hC.ha hC.hn hC.ht hC.hm) I.kIn J e (fun z => nomatch z) fun tk => ⟨.bl b, H, I.tok tk, rfl, q⟩
/-- e.f, e a kept error -/
def tFldH (K : PySem.W.Frag) (te : TE) (f : Str) : TE := fun σ H Q => te σ H fun x H1 => ∃ (a C d : Addr) (fs : List (Str × V)) (v : V), x = .ref a ∧ ErrAt H1 a C (some d) fs ∧ ExcC K C ∧ PySem.W.findIn K (.ref C) f = some none ∧ fs.lookup f = some v ∧ Q v H1
theorem pe_fldH {X : Cx} {e : Expr} {te : TE} {f : Str} {pos : Pos} (he : PE X e te) (hb : attributeBase e f X.env (eval e X.env) = eval e X.env) : PE X (.Attribute e f pos) (tFldH X.K te f) := by
  refine ⟨fun pins s σ H Q I h => attr_of hb (thn (he.run pins s σ H _ I h) fun u s1 hh => ?_)⟩
  obtain ⟨x, H1, I1, rx, a, C, d, fs, v, rfl, hE, hC, hn, hl, q⟩ := hh
  obtain rfl : u = Value.ref a := rx
  cases hE with
  | own h hd =>
    obtain ⟨⟨o, vs, e1, z, fl⟩, _⟩ := (show ObjOk X.prog X.w H1 s1.heap a (ExH (.ref C) (some d) a) from I1.hok a _ h)
    obtain ⟨m, hns, hr⟩ := (show ObjOk X.prog X.w H1 s1.heap d (.xd fs) from I1.hok d _ hd)
    obtain ⟨od, ho, hlk⟩ := lookIn_ns hns
    obtain ⟨u, hu, ru⟩ := RelO.some_of (v := v) (o := m f) (by rw [← hl]; exact hr f)
    have J : PySem.W.InstAt s1.heap a o C (some od) := ⟨e1, z.1, by unfold PySem.W.notCls; rw [fl] <;> rfl, by rw [z.2]; exact ho⟩
    exact HandSPX.exc_get I1.kIn J hC.hg hC.hk hC.hs (PySem.W.findObj_own hC.hd hn rfl (by rw [hlk, hu])) (handed_of ru) ⟨v, H1, I1.tok _, ru, q⟩
end Nn

namespace Nn
open PySem PySem.Spec PyProof.Rows L2
/-! ### an own error over an own error over ValueError, whose __init__ says super().__init__(e); self.f = v -/
/-- what the written part says of the class -/
structure SupC (K : PySem.W.Frag) (C : Addr) : Prop where
  own : OexC K C
  sup : PySem.W.ks_superIn K C C "__init__" = some (some (.builtin "ValueError.__init__"))
  sub : PySem.W.mroIn K C (.ref C) = some true
  val : PySem.W.subIn K (.ref C) (.type "ValueError") = some true
  sta : PySem.W.nsIn K PySem.cStatics "thirdparty.any" = some none
/-- .. and of its __init__ -/
structure SFun (prog : Program) (K : PySem.W.Frag) (C : Addr) (x qual : Str) (st : Stmt) (f : Addr) (fd : FuncData) : Prop where
  ex : ∃ (oc kV doc pm ct ccl cl : Value) (od an cdd cld : Option Addr) (cda cc : Addr) (osl ccs csl : Array (Option Value)) (vs : Array Value) (file : Str) (tf : Tok),
    fd = PySem.W.fnX x qual (defArgs st) (defBody st) (defScope st) [("__class__", cc)] .none kV doc pm an (.ref cda) ct ∧ K.lookup f = some ⟨oc, od, .func fd, osl⟩ ∧ PySem.W.codeIn K (.ref cda) qual = true ∧
    K.lookup cda = some ⟨ccl, cdd, .fields vs, ccs⟩ ∧ vs[2]? = some (.str file tf) ∧ ((prog.main.file : Str) == file) = true ∧ K.lookup cc = some ⟨cl, cld, .cell (some (.ref C)), csl⟩
  kp : PySem.W.keepIn K (.ref f) = true
theorem SFun.binds {prog : Program} {K : PySem.W.Frag} {C : Addr} {x qual : Str} {st : Stmt} {f : Addr} {fd : FuncData} {ps : List Str} (F : SFun prog K C x qual st f fd)
    (h : ∀ (cc : Addr) (kV doc pm : Value) (an : Option Addr) (cdv ct : Value) (us : List Value), us.length = ps.length → bindArgs (PySem.W.fnX x qual (defArgs st) (defBody st) (defScope st) [("__class__", cc)] .none kV doc pm an cdv ct) ⟨us, []⟩ = pure (ps.zip us)) : Binds K fd ps [] := by
  obtain ⟨oc, kV, doc, pm, ct, ccl, cl, od, an, cdd, cld, cda, cc, osl, ccs, csl, vs, file, tf, rfl, _⟩ := F.ex
  exact .all (h cc kV doc pm an (.ref cda) ct)
section
variable {X : Cx} {pins : List (Addr × Obj)} {σ : L2.St} {H : Hp} {s : Shared} {a C u : Addr} {us : List Value} {Q : Value → Shared → Prop} {E : Value → Shared → Prop} {A : Around}
/-- ValueError.__init__, bound to the error, called -/
theorem mw_call (T : SupC X.K C) (I : Inv X pins σ H s) (e : H a = some (exo a C none)) (hu : s.heap.get? u = some (PySem.W.kxs_mw "ValueError.__init__" a)) (hl : us.length ≤ sizeLine)
    (h : ∀ s', Inv X pins σ H s' → Q .none s') : wpAny (model X.prog X.w) A (call (.ref u) us) Q E s := by
  obtain ⟨nm, q, N, bs, bm, sn, sub, ab, col, dd, k0, k1, k2, k3, k5, hC, hbm⟩ := T.own.cls
  obtain ⟨t1, ho⟩ := exo_at I.hok e
  obtain ⟨hp, g, d, t, os⟩ := s
  refine wpAny_call (codeAny_of_tree ?_)
  show wpAny _ A.in1 (callAny (.ref u) ⟨us, []⟩) _ _ _
  simp only [callAny]
  refine wpAny_bind (wpAny_load hu ?_)
  simp only [PySem.W.kxs_mw]
  rw [if_pos (show (Value.type "method-wrapper" == Value.type "method" || Value.type "method-wrapper" == Value.type "builtin_function_or_method" || Value.type "method-wrapper" == Value.type "method-wrapper") = true by decide)]
  refine PySem.W.KFB.if_so (by decide) ?_
  refine wpAny_bind (PySem.W.check_bound_init F.excBase_ValueError.toExcCallFacts (I.kIn _ _ hC) ho rfl ?_)
  refine wpAny_bind (wpAny_pure (wpAny_pure ?_))
  refine ⟨plainId_quiet F.excBase_ValueError.init.plain _, codeAny_builtin F.excBase_ValueError.initEntry ?_⟩
  refine PySem.W.exc_init_tree (cls := .ref C) (t0 := t1) (dv := none) (c2 := .none) (c3 := .none) (b4 := .bool false) ho hl fun h' k hx _ => ?_
  have J := I.write (t' := t) (x := a) (e := a) (o := exo a C none) (by rw [e]; exact True.intro) (.inl rfl) k ⟨_, hx⟩ (exo_ok hx)
  rw [show upd H a (exo a C none) = H from funext fun b => by
    by_cases hb : b = a
    · rw [hb, upd_same, e]
    · rw [upd_ne hb]] at J
  exact h _ J
end
/-- the promise of such an __init__ -/
def spSup (C : Addr) (N : List Str) (fld : Str) (te : TE) : Sp := fun vs H Q _ => ∃ (a : Addr) (y : V), vs = [.ref a, y] ∧ H a = some (exo a C none) ∧
  tCons te tNil (NdefX.startF N vs [none]) H fun ms H1 => ms.length ≤ 1000 ∧ H1 = H ∧ ∀ dx, H dx = none → dx ≠ a → Q .non (upd (upd H dx (exd dx [(fld, y)])) a (exo a C (some dx)))
theorem sup_ok {P : Program} {w : World} {K : PySem.W.Frag} {mg : Str → Option Value} {base : Heap} {CX : CXT} {k : Nat} {x qual fld v : Str} {st : Stmt} {f C : Addr} {fd : FuncData} {N : List Str} {e : Expr} {te : TE} {p0 p1 ap pos pos2 p3 p4 p5 pos6 : Pos} {ar : Arg} {pl : Env → Sem Bool}
    (F : SFun P K C x qual st f fd) (T : SupC K C) (S : NdefX.NScope N ["self", v] ["__class__"] (defScope st)) (hm : mg "super" = none) (hno : PySem.W.findIn K (.ref C) fld = some none)
    (hst : defBody st = [.Expr (.Call (.Attribute (.Call (.Name "super" p0) [] [] p1) "__init__" ap) [e] [] pos) pos2, .Assign [.Attribute (.Name "self" p3) fld p4] (.Name v p5) pos6])
    (he : ∀ (A : Around) (outer : List Env) (s : Shared) (H : Hp) (E : XK) (cc cda : Addr), Room k (A.deeper (NdefX.envF ⟨x, qual, defArgs st, defBody st, defScope st, [("__class__", cc)], cda⟩ f s.heap.objs.size)) → PE (NdefX.ncx CX P w K mg base N ⟨x, qual, defArgs st, defBody st, defScope st, [("__class__", cc)], cda⟩ f A outer s H E) e te)
    (hs : ∀ env, starEach [e] env = (false, eval e env) :: starEach [] env)
    (hk1 : (defScope st).names.lookup ("super" : Str) = some .globalImplicit) (hk2 : (defScope st).names.lookup ("__class__" : Str) = some .free) (htop : (P.main.scope.names.lookup ("super" : Str)).isSome = false)
    (hp : ((defArgs st).posonlyargs ++ (defArgs st).args).head? = some ar) (har : ar.arg = "self") (hN0 : N[0]? = some ("self" : Str)) (hN1 : N[1]? = some v) (hv1 : (v == ("__debug__" : Str)) = false) (hv2 : (v == ("__classdict__" : Str)) = false)
    (hcall : ∀ env, eval (.Call (.Attribute (.Call (.Name "super" p0) [] [] p1) "__init__" ap) [e] [] pos) env = (do
      let ov ← attributeBase (.Call (.Name "super" p0) [] [] p1) "__init__" env (eval (.Call (.Name "super" p0) [] [] p1) env)
      standAt ap.atName
      let (f, first) ← holding [ov] (getMethod ov "__init__" (pl env))
      callWith pos f first (backTo pos (starEach [e] env)) []))
    (hint : ∀ env : Env, env.scope = defScope st → interactive env = false) (hsw : ∀ env, swapsWith (.Call (.Attribute (.Call (.Name "super" p0) [] [] p1) "__init__" ap) [e] [] pos) none pos2.line env = pure false) :
    FnOk P w K mg base CX (k + 1) f fd ["self", v] (spSup C N fld te) := by
  refine ⟨fun vs H Q E h => by obtain ⟨a, y, rfl, _⟩ := h; rfl, fun A outer s H args us vs Q E hr e0 hb r hsp => ?_⟩
  obtain ⟨a, y, rfl, ha, hq⟩ := hsp
  obtain ⟨oc, kV, doc, pm, ct, ccl, cl, od, an, cdd, cld, cda, cc, osl, ccs, csl, vs, file, tf, rfl, lk, hcd, lcd, hvs, hfile, lcc⟩ := F.ex
  have KX : K.In s.heap := e0.mod.kin.keeps fun b o e => (e0.bs b o e).1
  have lim : s.heap.NoLimit := e0.mod.nolimit.keeps fun b o e => (e0.bs b o e).1
  have hcc : H cc = none := (e0.bs _ _ (e0.mod.kin _ _ lcc)).2
  cases r with
  | @cons _ u0 _ ur r0 r' =>
  obtain rfl : u0 = Value.ref a := r0
  cases r' with
  | @cons _ u1 _ ur' r1 r'' =>
  cases r''
  have hC0 : NdefX.CellsAt [("__class__", cc)] ["__class__"] [none] s.heap H := by
    refine ⟨rfl, fun y c hc => ?_, fun x y c h1 h2 => ?_, fun i y hy => ?_⟩
    · have : c = cc := by
        simp only [List.lookup] at hc
        split at hc
        · exact (Option.some.inj hc).symm
        · cases hc
      subst this
      exact ⟨hcc, _, _, KX _ _ lcc, rfl⟩
    · have g : ∀ z : Str, List.lookup z [("__class__", cc)] = some c → z = "__class__" := fun z hz => by
        simp only [List.lookup] at hz
        split at hz
        · rename_i q
          exact by simpa using q
        · cases hz
      rw [g x h1, g y h2]
    · cases i with
      | zero =>
        cases hy
        exact ⟨cc, by simp [List.lookup], fun v hv => by cases hv⟩
      | succ i => cases hy
  refine codeAny_call_function hr.depth (KX _ _ lk) rfl S.co S.gen rfl (PySem.W.codeRec_of KX hcd) (hb _ _ _ _ ?_)
  refine wpAny_newFunctionEnv S.nocell (fun ⟨n, _⟩ hy => S.par n (List.of_mem_zip hy).1) (fun h₁ hns hsb => ⟨lim.fresh _ hsb, ?_⟩) S.kind
  show codeAny _ _ (.func (defBody st) (NdefX.envF ⟨x, qual, defArgs st, defBody st, defScope st, [("__class__", cc)], cda⟩ f s.heap.objs.size)) _ _
  refine ks_codeAny_funcAt ?_
  have kp : ∀ b o, s.heap.get? b = some o → h₁.get? b = some o := fun b o e => hsb.extBut b o (Nat.ne_of_lt (Heap.lt_size e)) (Heap.get?_push_of_some _ e)
  have I : L2.Inv (NdefX.ncx CX P w K mg base N ⟨x, qual, defArgs st, defBody st, defScope st, [("__class__", cc)], cda⟩ f A outer s H E) [] (NdefX.startF N [.ref a, y] [none]) H { s with heap := h₁, toks := s.toks + ((["self", v] : List Str).zip [Value.ref a, u1]).length } :=
    NdefX.inv_startN (us := [Value.ref a, u1]) S hr.hd e0 rfl (.cons (show L2.RelV (.ref a) (.ref a) from rfl) (.cons r1 .nil)) hC0 hns kp
  rw [hst]
  obtain ⟨nm, q, N', bs, bm, sn, sub, ab, col, dd, k0, k1, k2, k3, k5, hC, hbm⟩ := T.own.cls
  have hcl : PySem.W.clsIn K C = some { name := nm, bases := bs, mro := .ref C :: bm, ns := N', qualname := q, hasDict := true, slotNames := sn, subclasses := sub, abstract := ab, collection := col, hasDel := false } := by unfold PySem.W.clsIn; rw [hC] <;> rfl
  have hKs : ∀ z, s.heap.get? C = some z → h₁.get? C = some z := fun z => kp _ _
  obtain ⟨t1, hx⟩ := exo_at I.hok ha
  have hself : ((["self", v] : List Str).zip [Value.ref a, u1]).reverse.lookup ("self" : Str) = some (.ref a) := by
    have nd : (["self", v] : List Str).Nodup := by
      have := S.nd.sublist (List.take_sublist (2 + 1) N)
      rw [show N.take (2 + 1) = (["self", v] : List Str) ++ (["__class__"] : List Str) from S.pre] at this
      exact (List.nodup_append.mp this).1
    exact NdefX.zip_look (i := 0) nd rfl rfl
  refine ks_wpAt_execs_cons (ks_wpAt_Expr_any (ks_wpAt_MethodCall (pl := pl _) ?_ (hcall _)) (hint _ rfl) (hsw _))
  refine ks_wpAt_super_base hk1 hk2 (by decide) rfl (kp _ _ (KX _ _ lk)) rfl hp rfl (kp _ _ (KX _ _ lcd)) rfl hvs hfile htop ?_
  refine PySem.W.ks_loadName_global S.kind hk1 ?_
  obtain ⟨mb, b1, b2⟩ := e0.mod.blt
  refine Calls.loadGlobal_builtin (e0.mod.glob.keeps I.bk) hm (b1.keeps I.bk) ((b2 _ (by decide)).trans PyProof.Rows.Boot.«super») ⟨rfl, ?_⟩
  refine wpAny_loadName_free S.kind hk2 rfl ⟨_, kp _ _ (KX _ _ lcc), rfl⟩ ?_
  rw [har]
  refine wpAny_loadName_local S.kind (S.par _ (by simp)) hns hself ?_
  refine ks_wpAny_isType_cls (kp _ _ (KX _ _ hC)) rfl ⟨rfl, ?_⟩
  refine ks_wpAny_call_super (kp _ _ (KX _ _ hC)) rfl hx rfl (fun c z => nomatch z) (PySem.W.looks_mroIn I.kIn T.sub) fun h2 e2 k2 => ?_
  have I2 := I.kept (t' := s.toks + ((["self", v] : List Str).zip [Value.ref a, u1]).length) k2
  have IA : PySem.W.InstAt h2 a _ C none := ⟨k2 _ _ hx, rfl, rfl, trivial⟩
  refine PySem.W.kxs_getMethod PySem.W.kxs_ValueError e2 (PySem.W.looks_opaque I2.kIn T.sta) ((PySem.W.looks_clsIn I2.kIn hcl).andThen .now) rfl I2.kIn ?hf (IA.type.andThen (PySem.W.looks_subIn I2.kIn T.val)) (PySem.W.ks_ne I2.kIn IA hcl) (by decide) ?_
  case hf =>
    have q := T.sup
    unfold PySem.W.ks_superIn at q
    rw [hcl] at q
    exact q
  have k3 : ∀ b o, h2.get? b = some o → (h2.push (PySem.W.kxs_mw "ValueError.__init__" a)).get? b = some o := fun b o e => Heap.get?_push_of_some _ e
  have I3 := I2.kept (t' := s.toks + ((["self", v] : List Str).zip [Value.ref a, u1]).length + 1) k3
  have hu : (h2.push (PySem.W.kxs_mw "ValueError.__init__" a)).get? h2.objs.size = some (PySem.W.kxs_mw "ValueError.__init__" a) := Heap.get?_push_size _ rfl
  have I4 := I3.pins_of (pins' := [(h2.objs.size, PySem.W.kxs_mw "ValueError.__init__" a)]) fun p hp => by
    obtain rfl := List.mem_singleton.mp hp
    exact ⟨hu, I2.hok.fresh (Nat.le_refl _), Nat.ne_of_gt I2.lt, I2.nofs (Nat.le_refl _), fun v z => nomatch z⟩
  rw [hs]
  refine PySem.W.kxs_callWith (i := "ValueError.__init__") (x := a) rfl (PySem.Calls.evalArgs_plain ?_)
  have pa := pa_cons (he A outer s H E cc cda (hr.deeper _)) pa_nil (hs _)
  have go := pa.run pos _ _ _ _ _ I4 hq
  rw [hs] at go
  refine thn go fun us s5 ⟨vs, H5, I5, r5, hl5, eH, hend⟩ => ?_
  rw [eH] at I5
  have hu5 := (I5.pin (h2.objs.size, PySem.W.kxs_mw "ValueError.__init__" a) (by simp)).1
  refine ⟨hu5, mw_call T I5 ha hu5 (by show us.length ≤ sizeLine; rw [← r5.length]; exact Nat.le_trans hl5 (by decide)) fun s6 I6 => ?_⟩
  refine wpAt_of_wpAny ?_
  have ps : PSs (NdefX.ncx CX P w K mg base N ⟨x, qual, defArgs st, defBody st, defScope st, [("__class__", cc)], cda⟩ f A outer s H E) [.Assign [.Attribute (.Name "self" p3) fld p4] (.Name v p5) pos6] _ :=
    pss_one (ps_ost (pe_var (i := 0) hN0 (.inl (S.par _ (by simp))) (by decide) (by decide)) (pe_var (i := 1) hN1 (.inl (S.par _ (by simp))) hv1 hv2))
  refine wpAny_mono (ps.run _ _ _ _ { nx := fun _ H' => Q .non H', rt := Q } I6 ?ost) (fun fl s' hs => ?_) fun e s' hs => hs
  case ost => exact ⟨y, rfl, .ref a, rfl, a, C, rfl, T.own, hno, .inl ⟨ha, fun dx n ne => hend dx n ne⟩⟩
  have fin : ∀ {σ' : L2.St} {H' : Hp} {v' : V} {u : Value} {pn : List (Addr × Obj)}, L2.Inv (NdefX.ncx CX P w K mg base N ⟨x, qual, defArgs st, defBody st, defScope st, [("__class__", cc)], cda⟩ f A outer s H E) pn σ' H' s' → L2.RelV v' u → Q v' H' → CE outer P w H s Q u s' :=
    fun {σ' H' v' u pn} J rv q => ⟨v', H', J.os, J.bare, J.base, J.hok, rv, q⟩
  cases fl with
  | ret u =>
    obtain ⟨v', σ', H', J, rv, q⟩ := hs
    exact fin J rv q
  | next =>
    obtain ⟨σ', H', J, q⟩ := hs
    exact fin (v' := V.non) (u := Value.none) J rfl q
  | brk =>
    obtain ⟨_, _, _, q⟩ := hs
    exact False.elim q
  | cont =>
    obtain ⟨_, _, _, q⟩ := hs
    exact False.elim q
end Nn

namespace Nn
open PySem PySem.Spec PyProof.Rows L2
/-! ### defs, classes and methods of the text that may raise -/
structure ClX (P : Program) (w : World) (K : PySem.W.Frag) (mg : Str → Option Value) (base : Heap) (k : Nat) (x : Str) (sp : Sp) : Prop where
  ex : ∃ (f : Addr) (fd : FuncData) (ps : List Str), FnOk P w K mg base (L2.CX P w) k f fd ps sp ∧ mg x = some (.ref f) ∧ PySem.W.keepIn K (.ref f) = true ∧ Binds K fd ps []
structure MrX (P : Program) (w : World) (K : PySem.W.Frag) (mg : Str → Option Value) (base : Heap) (k : Nat) (x : Str) (C : Addr) (sp : Sp) : Prop where
  ex : ∃ (f : Addr) (fd : FuncData) (ps : List Str), Mk K C f ∧ FnOk P w K mg base (L2.CX P w) k f fd ps sp ∧ mg x = some (.ref C) ∧ Binds K fd ps []
structure MtX (P : Program) (w : World) (K : PySem.W.Frag) (mg : Str → Option Value) (base : Heap) (k : Nat) (C : Addr) (m : Str) (sp : Sp) : Prop where
  ex : ∃ (f : Addr) (fd : FuncData) (ps : List Str), Cls K C ∧ Meth K C m f ∧ FnOk P w K mg base (L2.CX P w) k f fd ps sp ∧ Binds K fd ps []
section
variable {P : Program} {w : World} {K : PySem.W.Frag} {mg : Str → Option Value} {base : Heap} {j k f C : Addr} {fd : FuncData} {ps : List Str} {sp : Sp} {x m : Str}
end
def tMakeS (C : Addr) (sp : Sp) (E : L2.St → XK) (t : TA) : TE := fun σ H Q => t σ H fun vs H1 => ∀ x dx, H1 x = none → H1 dx = none → dx ≠ x → sp (.ref x :: vs) (upd (upd H1 dx (.own x)) x (.ins C dx [])) (fun v H2 => v = .non ∧ Q (.ref x) H2) (E σ)
def tMethS (C : Addr) (m : Str) (sp : Sp) (E : L2.St → XK) (ta : TE) (t : TA) : TE := fun σ H Q => ta σ H fun x H1 => ∃ a dx fs, x = .ref a ∧ H1 a = some (.ins C dx fs) ∧ fs.lookup m = none ∧ t σ H1 fun vs H2 => sp (x :: vs) H2 Q (E σ)
section
variable {X : Cx} {W : WX} {j k : Nat} {C : Addr} {x m : Str} {sp : Sp} {p pos apos : Pos} {e o : Expr} {es : List Expr} {ta : TE} {t : TA}
theorem pe_clX (tk : Takes X W) (c : ClX X.prog X.w X.K X.mg X.base k x sp) (hr : Room j X.A) (hk : k ≤ j) (hg : Gl X x) (ha : PA X (e :: es) t)
    (hdb : (x == ("__debug__" : Str)) = false := by decide) (he : starEach (e :: es) X.env = (false, eval e X.env) :: starEach es X.env := by rfl) (hpl : (backTo pos (starEach es X.env)).any (·.1) = false := by rfl) :
    PE X (.Call (.Name x p) (e :: es) [] pos) (tCallS sp (WE W) t) := by
  obtain ⟨f, fd, ps, F, hm, kp, b⟩ := c.ex
  exact pe_callS F (hr.mono hk) hg hm kp b (passAt tk) ha hdb he hpl
/-- a class called whose __init__ may raise -/
theorem makeS_run {pins : List (Addr × Obj)} {σ : L2.St} {H : Hp} {s : Shared} {Q : VK} {us : List Value} {vs : List V} (c : MrX X.prog X.w X.K X.mg X.base k x C sp) (hr : Room j X.A) (hk : k + 1 ≤ j) {E : XK} (hx : PassesAt (L2.CX X.prog X.w) X σ E)
    (I : Inv X pins σ H s) (r : Vals vs us) (h : ∀ x dx, H x = none → H dx = none → dx ≠ x → sp (.ref x :: vs) (upd (upd H dx (.own x)) x (.ins C dx [])) (fun v H2 => v = .non ∧ Q (.ref x) H2) E) :
    wpAny (model X.prog X.w) X.A (call (.ref C) us) (EP X pins σ Q) X.xe s := by
  obtain ⟨f, fd, ps, M, F, hm, b⟩ := c.ex
  have n : s.heap.objs.size ≠ s.heap.objs.size + 1 := Nat.ne_of_lt (Nat.lt_succ_self _)
  have go := h (s.heap.objs.size + 1) s.heap.objs.size (I.hok.fresh (Nat.le_succ _)) (I.hok.fresh (Nat.le_refl _)) n
  have J : Inv X pins σ _ _ := Inv.made (C := C) I
  have rr : Vals (V.ref (s.heap.objs.size + 1) :: vs) (Value.ref (s.heap.objs.size + 1) :: us) := .cons (show L2.RelV (.ref _) (.ref _) from rfl) r
  have hlen : (Value.ref (s.heap.objs.size + 1) :: us).length = ps.length := rr.length.symm.trans (F.len _ _ _ _ go)
  have bd := b _ (Value.ref (s.heap.objs.size + 1) :: us) J.kIn (by rw [List.append_nil]; exact hlen)
  rw [List.append_nil] at bd
  refine wpAny_call (make_map (f := f) I.kIn M.makes M.init (beq_iff_eq.mp M.fn) (codeAny_mono (F.run _ X.stack _ _ ⟨Value.ref (s.heap.objs.size + 1) :: us, []⟩ _ _ _ E ((hr.mono hk).make C us []) (J.env0.make C us []) bd rr go) fun fl s' q => ?_))
  match fl, q with
  | .error er, q => exact hx pins _ _ er s' J q
  | .ok (.ret u), q =>
    obtain ⟨v, H', J', rv, ev, q3⟩ := J.after q
    subst ev
    exact ⟨rv, V.ref (s.heap.objs.size + 1), H', J', rfl, q3⟩
  | .ok .next, q => exact False.elim q
  | .ok .brk, q => exact False.elim q
  | .ok .cont, q => exact False.elim q
theorem pe_mrX (tk : Takes X W) (c : MrX X.prog X.w X.K X.mg X.base k x C sp) (hr : Room j X.A) (hk : k + 1 ≤ j) (hg : Gl X x) (ha : PA X (e :: es) t)
    (hdb : (x == ("__debug__" : Str)) = false := by decide) (he : starEach (e :: es) X.env = (false, eval e X.env) :: starEach es X.env := by rfl) (hpl : (backTo pos (starEach es X.env)).any (·.1) = false := by rfl) :
    PE X (.Call (.Name x p) (e :: es) [] pos) (tMakeS C sp (WE W) t) := by
  obtain ⟨f, fd, ps, M, F, hm, b⟩ := c.ex
  exact ⟨fun pins s σ H Q I h => wpAny_Call_Name_kw (ld_glob I hg hm (PySem.W.callWith_K (h₀ := X.base) I.ok.mod.kin M.kp (thn (ha.run pos pins s σ H _ I h) fun us s1 ⟨vs, H1, I1, r, q⟩ =>
    ⟨I1.kIn, makeS_run c hr hk (passAt tk σ) I1 r q⟩) he hpl) hdb)⟩
theorem pe_meX {pl : Sem Bool} (tk : Takes X W) (c : MtX X.prog X.w X.K X.mg X.base k C m sp) (hr : Room j X.A) (hk : k ≤ j) (he : PE X o ta) (ha : PA X (e :: es) t)
    (hst : starEach (e :: es) X.env = (false, eval e X.env) :: starEach es X.env := by rfl) (hpl : (backTo pos (starEach es X.env)).any (·.1) = false := by rfl)
    (ht : eval (.Call (.Attribute o m apos) (e :: es) [] pos) X.env = (do
      let ov ← eval o X.env
      standAt apos.atName
      let (f, first) ← holding [ov] (getMethod ov m pl)
      callWith pos f first (backTo pos (starEach (e :: es) X.env)) (backToKw pos (keywordEach [] X.env))) := by rfl) :
    PE X (.Call (.Attribute o m apos) (e :: es) [] pos) (tMethS C m sp (WE W) ta t) := by
  obtain ⟨f, fd, ps, hc, hm, F, b⟩ := c.ex
  refine ⟨fun pins s σ H Q I h => PySem.W.methodCall_KW (pl := pl) (thn (he.run pins s σ H _ I h) fun u s1 ⟨v, H1, I1, rv, a, dx, fs, ev, ea, l, q⟩ => ?_) ht⟩
  subst ev
  obtain rfl : u = Value.ref a := rv
  exact getmeth_ok I1 ea hc hm l (PySem.W.callWith_K (first := [.ref a]) (h₀ := X.base) I.ok.mod.kin hm.kp (thn (ha.run pos pins s1 σ H1 _ I1 q) fun us s2 ⟨vs, H2, I2, r, q2⟩ =>
    ⟨I2.kIn, run_fnS (E := WE W) (us := .ref a :: us) (vs := .ref a :: vs) F (hr.mono hk) b (passAt tk σ) I2 (.cons (show L2.RelV (.ref a) (.ref a) from rfl) r) q2⟩) hst hpl)
theorem pe_me0X {pl : Sem Bool} (tk : Takes X W) (c : MtX X.prog X.w X.K X.mg X.base k C m sp) (hr : Room j X.A) (hk : k ≤ j) (he : PE X o ta)
    (ht : eval (.Call (.Attribute o m apos) [] [] pos) X.env = (do
      let ov ← eval o X.env
      standAt apos.atName
      let (f, first) ← holding [ov] (getMethod ov m pl)
      callWith pos f first (backTo pos (starEach [] X.env)) (backToKw pos (keywordEach [] X.env))) := by rfl) :
    PE X (.Call (.Attribute o m apos) [] [] pos) (tMethS C m sp (WE W) ta tNil) := by
  obtain ⟨f, fd, ps, hc, hm, F, b⟩ := c.ex
  refine ⟨fun pins s σ H Q I h => PySem.W.methodCall_KW (pl := pl) (thn (he.run pins s σ H _ I h) fun u s1 ⟨v, H1, I1, rv, a, dx, fs, ev, ea, l, q⟩ => ?_) ht⟩
  subst ev
  obtain rfl : u = Value.ref a := rv
  exact getmeth_ok I1 ea hc hm l (PySem.W.callWith_K0 (first := [.ref a]) I1.kIn hm.kp (run_fnS (E := WE W) (us := [.ref a]) (vs := [.ref a]) F (hr.mono hk) b (passAt tk σ) I1 (.cons (show L2.RelV (.ref a) (.ref a) from rfl) .nil) q))
end
section
variable {σ : L2.St} {H : Hp} {Q : VK} {ta te : TE} {t : TA} {C : Addr} {sp : Sp} {E : L2.St → XK} {m : Str} {K : PySem.W.Frag} {f : Str}
theorem rd_callS (k : t σ H fun vs H1 => sp vs H1 Q (E σ)) : tCallS sp E t σ H Q := k
theorem rd_makeS (k : t σ H fun vs H1 => ∀ x dx, H1 x = none → H1 dx = none → dx ≠ x → sp (.ref x :: vs) (upd (upd H1 dx (.own x)) x (.ins C dx [])) (fun v H2 => v = .non ∧ Q (.ref x) H2) (E σ)) : tMakeS C sp E t σ H Q := k
theorem rd_methS (k : ta σ H fun x H1 => ∃ a dx fs, x = .ref a ∧ H1 a = some (.ins C dx fs) ∧ fs.lookup m = none ∧ t σ H1 fun vs H2 => sp (x :: vs) H2 Q (E σ)) : tMethS C m sp E ta t σ H Q := k
theorem rd_fldH (k : te σ H fun x H1 => ∃ (a C d : Addr) (fs : List (Str × V)) (v : V), x = .ref a ∧ ErrAt H1 a C (some d) fs ∧ ExcC K C ∧ PySem.W.findIn K (.ref C) f = some none ∧ fs.lookup f = some v ∧ Q v H1) : tFldH K te f σ H Q := k
end
/-! ### the seven refusals -/
inductive Flt where
  | name | twice (z : Str) | missing (z : Str) | held (z : Str) | letgo (z : Str) | spare (zs : List Str) | row (n : Int)
/-- the classes -/
structure ErrCs where
  name : Addr
  twice : Addr
  missing : Addr
  held : Addr
  letgo : Addr
  spare : Addr
  row : Addr
def Flt.cls (Cs : ErrCs) : Flt → Addr
  | .name => Cs.name
  | .twice _ => Cs.twice
  | .missing _ => Cs.missing
  | .held _ => Cs.held
  | .letgo _ => Cs.letgo
  | .spare _ => Cs.spare
  | .row _ => Cs.row
/-- the field that an error has -/
def fN (x : Str) (v : V) : List (Str × V) := [(x, v)]
def fldIs (H : Hp) : Flt → List (Str × V) → Prop
  | .name, fs => fs = []
  | .twice z, fs => fs = fN "name" (V.str z)
  | .missing z, fs => fs = fN "name" (V.str z)
  | .held z, fs => fs = fN "name" (V.str z)
  | .letgo z, fs => fs = fN "name" (V.str z)
  | .spare zs, fs => ∃ t, fs = fN "ring" (V.ref t) ∧ H t = some (.tup (zs.map V.str))
  | .row n, fs => fs = fN "row" (V.int n)
/-- the error is out: what stood stands, its dict is new -/
def Thrown (Cs : ErrCs) (N : List Addr) (H : Hp) (E : XK) (x : Flt) : Prop :=
  match x with
  | .name => ∀ H', Kp N H H' → E (.ref Cs.name) none H'
  | x => ∀ d fs H', H d = none → Kp N H H' → H' d = some (.xd fs) → fldIs H' x fs → E (.ref (x.cls Cs)) (some d) H'
/-- an error that is kept at a -/
def ErrIs (Cs : ErrCs) (H : Hp) (a : Addr) (x : Flt) : Prop := ∃ d fs, ErrAt H a (x.cls Cs) d fs ∧ fldIs H x fs ∧ (x ≠ .name → d ≠ none)
end Nn
namespace Nn
open PySem PySem.Spec PyProof.Rows L2
/-! ### the errors made -/
/-- what an error's field takes: a short text; a tuple of short texts; a number that is not vast -/
def okT : V → Hp → Prop := fun y _ => ∃ z : Str, y = .str z ∧ z.length ≤ 100000
def okI : V → Hp → Prop := fun y _ => ∃ i : Int, y = .int i ∧ i.natAbs.log2 < 1920
def okR (K : PySem.W.Frag) : V → Hp → Prop := fun y H => ∃ (t : Addr) (l : List Str), y = .ref t ∧ SqT K H t (l.map V.str) ∧ (∀ z ∈ l, ∀ c ∈ z.cps.toList, c < 16 ^ 8) ∧ fmtCost l ≤ 100000
def spErr (C : Addr) (fld : Str) (ok : V → Hp → Prop) : Sp := fun vs H Q _ => ∃ (a : Addr) (y : V), vs = [.ref a, y] ∧ ok y H ∧ H a = some (exo a C none) ∧ ∀ dx, H dx = none → dx ≠ a → Q .non (upd (upd H dx (exd dx [(fld, y)])) a (exo a C (some dx)))
/-- X(e), as the text's class with its own __init__ makes it -/
structure ErrMk (P : Program) (w : World) (K : PySem.W.Frag) (mg : Str → Option Value) (base : Heap) (k : Nat) (x : Str) (C : Addr) (fld : Str) (ok : V → Hp → Prop) : Prop where
  ex : ∃ (f : Addr) (fd : FuncData) (ps : List Str), OexC K C ∧ PySem.W.findIn K (.ref C) "__init__" = some (some (.ref f)) ∧ PySem.W.typeIn K (.ref f) = some (.type "function") ∧ FnOk P w K mg base CX0 k f fd ps (spErr C fld ok) ∧ Binds K fd ps [] ∧ mg x = some (.ref C)
section
variable {X : Cx} {j k : Nat} {C : Addr} {x fld : Str} {ok : V → Hp → Prop} {p pos : Pos} {e : Expr} {te : TE}
theorem pmk_err (c : ErrMk X.prog X.w X.K X.mg X.base k x C fld ok) (hr : Room j X.A) (hk : k + 1 ≤ j) (hg : Gl X x) (he : PE X e te) (hdb : (x == ("__debug__" : Str)) = false := by decide)
    (hs : starEach [e] X.env = (false, eval e X.env) :: starEach [] X.env := by rfl) (hpl : (backTo pos (starEach [] X.env)).any (·.1) = false := by rfl) :
    PMk X (.Call (.Name x p) [e] [] pos) (tMkO C (spErr C fld ok) [] (tCons te tNil)) := by
  obtain ⟨f, fd, ps, T, iC, tI, F, b, hm⟩ := c.ex
  exact pmk_oex T iC tI F (hr.mono hk) b .nil pass0 hg hm (pa_cons he pa_nil hs) hdb hs hpl
end
section
variable {σ : L2.St} {H H0 : Hp} {C : Addr} {fld : Str} {ok : V → Hp → Prop} {te : TE} {Q : XK} {y : V} {M : List Addr} {L T : List (Addr × HO)}
theorem rd_mkO {sp : Sp} (k : te σ H fun y H1 => [y].length ≤ 1000 ∧ ∀ a, H1 a = none → sp (.ref a :: ([y] ++ [])) (upd H1 a (exo a C none)) (fun v H2 => v = .non ∧ ∃ (d : Addr) (fs : List (Str × V)), H2 a = some (exo a C (some d)) ∧ H2 d = some (exd d fs) ∧ H1 d = none ∧ Q (.ref C) (some d) (upd (del H2 a) d (.xd fs))) (fun _ _ _ => False)) :
    tMkO C sp [] (tCons te tNil) σ H Q := k
/-- the end of X(y) -/
theorem rd_err (ho : ∀ a, H a = none → ok y (upd H a (exo a C none))) (k : ∀ d, H d = none → Q (.ref C) (some d) (upd H d (.xd [(fld, y)]))) :
    [y].length ≤ 1000 ∧ ∀ a, H a = none → spErr C fld ok (.ref a :: ([y] ++ [])) (upd H a (exo a C none)) (fun v H2 => v = .non ∧ ∃ (d : Addr) (fs : List (Str × V)), H2 a = some (exo a C (some d)) ∧ H2 d = some (exd d fs) ∧ H d = none ∧ Q (.ref C) (some d) (upd (del H2 a) d (.xd fs))) (fun _ _ _ => False) := by
  refine ⟨(show 1 ≤ 1000 by decide), fun a ha => ⟨a, y, rfl, ho a ha, upd_same, fun dx hdx hne => ⟨rfl, dx, [(fld, y)], upd_same, ?_, ?_, ?_⟩⟩⟩
  · rw [upd_ne hne, upd_same]
  · rw [upd_ne hne] at hdx; exact hdx
  · have hd : H dx = none := by rw [upd_ne hne] at hdx; exact hdx
    have e : upd (del (upd (upd (upd H a (exo a C none)) dx (exd dx [(fld, y)])) a (exo a C (some dx))) a) dx (.xd [(fld, y)]) = upd H dx (.xd [(fld, y)]) := by
      funext b
      by_cases h1 : b = dx
      · rw [h1, upd_same, upd_same]
      · rw [upd_ne h1, upd_ne h1]
        by_cases h2 : b = a
        · rw [h2, del_same, ha]
        · rw [del_ne h2, upd_ne h2, upd_ne h1, upd_ne h2]
    rw [e]
    exact k dx hd
/-- a refusal with a text is out -/
theorem thrown_out {Cs : ErrCs} {E : XK} {x : Flt} {fs : List (Str × V)} (A : At M H0 H L T) (th : Thrown Cs M H0 E x) (hx : x ≠ .name) (hf : ∀ H', fldIs H' x fs) {d : Addr} (hd : H d = none) : E (.ref (x.cls Cs)) (some d) (upd H d (.xd fs)) := by
  have B := A.snoc hd (.xd fs)
  cases x with
  | name => exact absurd rfl hx
  | twice z => exact th d fs _ (A.fresh0 hd) B.keep upd_same (hf _)
  | missing z => exact th d fs _ (A.fresh0 hd) B.keep upd_same (hf _)
  | held z => exact th d fs _ (A.fresh0 hd) B.keep upd_same (hf _)
  | letgo z => exact th d fs _ (A.fresh0 hd) B.keep upd_same (hf _)
  | spare z => exact th d fs _ (A.fresh0 hd) B.keep upd_same (hf _)
  | row z => exact th d fs _ (A.fresh0 hd) B.keep upd_same (hf _)
end
/-! ### NoName -/
structure NoNameC (K : PySem.W.Frag) (mg : Str → Option Value) (x : Str) (C : Addr) : Prop where
  ex : PySem.W.excIn K C [.type "ValueError", .type "Exception", .type "BaseException", .type "object"] "ValueError.__new__" = true
  g : mg x = some (.ref C)
  k : PySem.W.keepIn K (.ref C) = true
  b : PySem.W.subIn K (.ref C) (.type "BaseException") = some true
  t : PySem.W.typeIn K (.ref C) = some (.type "type")
theorem pmk_noname {X : Cx} {x : Str} {C : Addr} {p pos : Pos} {e : Expr} {te : TE} (c : NoNameC X.K X.mg x C) (hx : X.ex = []) (hg : Gl X x) (he : PE X e te) (hs : starEach [e] X.env = (false, eval e X.env) :: starEach [] X.env := by rfl) (hdb : (x == ("__debug__" : Str)) = false := by decide) :
    PMk X (.Call (.Name x p) [e] [] pos) (fun σ H Q => te σ H fun _ H1 => ∀ a, H1 a = none → ∃ b cls, V.ref a = .ref b ∧ (upd H1 a (ExO (.ref C) a)) b = some (ExO cls b) ∧ Fr0 X.H_0 b ∧ Raises X cls ∧ Q cls none (delH (upd H1 a (ExO (.ref C) a)) b)) :=
  pmk_ret hx (pe_exc1 F.excBase_ValueError c.ex c.g c.k hg he hs hdb)
/-- the end of NoName(..) -/
theorem rd_noName {X : Cx} {x : Str} {C : Addr} {H : Hp} {Q : XK} (c : NoNameC X.K X.mg x C) (h0 : ∀ a, H a = none → X.H_0 a = none) (k : Q (.ref C) none H) :
    ∀ a, H a = none → ∃ b cls, V.ref a = .ref b ∧ (upd H a (ExO (.ref C) a)) b = some (ExO cls b) ∧ Fr0 X.H_0 b ∧ Raises X cls ∧ Q cls none (delH (upd H a (ExO (.ref C) a)) b) :=
  fun a ha => ⟨a, .ref C, rfl, upd_same, fr0_none (h0 a ha), raises_own c.b c.t, by rw [delH_new ha]; exact k⟩
end Nn
namespace Nn
open PySem PySem.Spec PyProof.Rows L2
/-! ### what the text of such an __init__ comes to -/
section
variable {C : Addr} {N : List Str} {c c2 : Str} {vs : List V} {H : Hp} {Q : VK} {E : XK}
abbrev tTexts (ts : List TE) : TE := fun σ H Q => tJs ts Str.empty σ H fun out H1 => Q (.str out) H1
theorem sup_nc (hc : c.length ≤ 1000) (fld : Str) (h : spErr C fld okT vs H Q E) : spSup C N fld (tTexts [tFmt (tVar 1), tC (.str c)]) vs H Q E := by
  obtain ⟨a, y, rfl, ⟨z, rfl, hz⟩, ha, k⟩ := h
  have s1 : (100000 : Nat) + 1000 ≤ sizeLine := by decide
  have l1 : (Str.empty ++ z).length ≤ sizeLine := by rw [Str.length_append]; show 0 + _ ≤ _; omega
  have l2 : (Str.empty ++ z ++ c).length ≤ sizeLine := by rw [Str.length_append, Str.length_append]; show 0 + _ + _ ≤ _; omega
  exact ⟨a, .str z, rfl, ha, .str z, rfl, .inl ⟨z, rfl, by omega, z, rfl, l1, c, rfl, l2, (show 1 ≤ 1000 by decide), rfl, k⟩⟩
theorem sup_cn (hc : c.length ≤ 1000) (fld : Str) (h : spErr C fld okT vs H Q E) : spSup C N fld (tTexts [tC (.str c), tFmt (tVar 1)]) vs H Q E := by
  obtain ⟨a, y, rfl, ⟨z, rfl, hz⟩, ha, k⟩ := h
  have s1 : (100000 : Nat) + 1000 ≤ sizeLine := by decide
  have l1 : (Str.empty ++ c).length ≤ sizeLine := by rw [Str.length_append]; show 0 + _ ≤ _; omega
  have l2 : (Str.empty ++ c ++ z).length ≤ sizeLine := by rw [Str.length_append, Str.length_append]; show 0 + _ + _ ≤ _; omega
  exact ⟨a, .str z, rfl, ha, c, rfl, l1, .str z, rfl, .inl ⟨z, rfl, by omega, z, rfl, l2, (show 1 ≤ 1000 by decide), rfl, k⟩⟩
theorem sup_cR {K : PySem.W.Frag} (hc : c.length ≤ 1000) (fld : Str) (h : spErr C fld (okR K) vs H Q E) : spSup C N fld (tTexts [tC (.str c), tFmtT K (tVar 1)]) vs H Q E := by
  obtain ⟨a, y, rfl, ⟨t, l, rfl, ht, hl, hz⟩, ha, k⟩ := h
  have s1 : (100000 : Nat) + 2000 ≤ sizeLine := by decide
  have l1 : (Str.empty ++ c).length ≤ sizeLine := by rw [Str.length_append]; show 0 + _ ≤ _; omega
  exact ⟨a, .ref t, rfl, ha, c, rfl, l1, .ref t, rfl, t, l, rfl, ht, hl, by omega, fun m hm => ⟨m, rfl, by rw [Str.length_append, Str.length_append]; show 0 + _ + _ ≤ _; omega, (show 1 ≤ 1000 by decide), rfl, k⟩⟩
end
end Nn
namespace Nn
open PySem PySem.Spec PyProof.Rows L2
theorem int_of {env : Env} {sc : Scope} (h : env.scope = sc) (k : (sc.kind == .module) = false) : interactive env = false := by
  unfold interactive
  rw [h, k, Bool.false_and]
/-- what «except N» catches: an error of a class below N -/
theorem exm_of {K : PySem.W.Frag} {S N : Addr} (h1 : PySem.W.subIn K (.ref N) (.type "BaseException") = some true) (h2 : PySem.W.isClsIn K N = true) (h3 : PySem.W.typeIn K (.ref N) = some (.type "type")) (h4 : PySem.W.subIn K (.ref S) (.ref N) = some true) :
    PySem.W.exmOne K (.ref S) (.ref N) = some true := by
  have h2' : (PySem.W.clsIn K N).isSome = true := h2
  unfold PySem.W.exmOne
  rw [h1, if_pos (by rfl)]
  show (if ((PySem.W.clsIn K N).isSome && PySem.W.typeIn K (.ref N) == some (.type "type")) = true then PySem.W.subIn K (.ref S) (.ref N) else none) = some true
  rw [h2', h3, if_pos (by rfl)]
  exact h4
end Nn

namespace Nn
open PySem PySem.Spec PyProof.Rows L2
/-! ### l.count(b), bools -/
def rCntB (K : PySem.W.Frag) : V → List V → Hp → VK → Prop := fun x xs H Q => ∃ (p : Addr) (bs : List Bool) (k : Bool), x = .ref p ∧ xs = [.bl k] ∧ SqL K H p (bs.map V.bl) ∧ Q (.int (bs.count k : Nat)) H
theorem bools_of : ∀ {bs : List Bool} {its : List Value}, Vals (bs.map V.bl) its → its = bs.map Value.bool
  | [], _, h => by cases h; rfl
  | b :: bs, _, h => by
    cases h with
    | cons r t =>
      rw [bools_of t, List.map_cons, show _ = Value.bool b from r]
def isB (k : Bool) (v : Value) : Bool := match v with
  | .bool b => b == k
  | _ => false
theorem count_isB (k : Bool) : ∀ bs : List Bool, (bs.map Value.bool).countP (isB k) = bs.count k
  | [] => rfl
  | b :: bs => by
    rw [List.map_cons, List.countP_cons, List.count_cons, count_isB k bs]
    rfl
theorem mt_cntB {X : Cx} : MtR X "list.count" (rCntB X.K) := by
  intro pins s σ H x xs v us Q I rx rxs h
  obtain ⟨p, bs, k, rfl, rfl, hs, q⟩ := h
  cases rx
  obtain ⟨u, rfl, ru⟩ := rxs.one
  obtain rfl : u = Value.bool k := ru
  obtain ⟨its, rv, ⟨⟨cls, dd, data, sl⟩, n, ho, hc, hdn, hd⟩, hlen⟩ := I.list hs
  simp only at hc hd
  subst hc hd
  have e := bools_of rv
  subst e
  refine call_meets PySem.F.slot_list_count ⟨_, ho, rfl⟩ PySem.F.entry_list_count (PySem.F.args_list_count_2 _ _) (SeqAt.list_countAt p (bs.map Value.bool).toArray n dd sl (.bool k) (isB k)) ⟨ho, fun y hy => ?_, ?_⟩
  · have hy : y ∈ bs.map Value.bool := by simpa using hy
    obtain ⟨b, _, rfl⟩ := List.mem_map.mp hy
    exact eqAt_V (y := .bl b) (x := .bl k) rfl rfl rfl rfl
  refine ⟨.int (bs.count k : Nat), H, I.tok _, ⟨s.toks, ?_⟩, q⟩
  rw [← count_isB k bs]
end Nn

namespace Nn
open PySem PySem.Spec PyProof.Rows L2
/-! ### set(l), l a list of texts -/
def inL (l : List Str) : Key → Bool
  | .inl _ => false
  | .inr z => decide (z ∈ l)
theorem inL_snoc (l : List Str) (x : Str) (k : Key) : (inL l k || decide (k = .inr x)) = inL (l ++ [x]) k := by
  cases k with
  | inl i =>
    show (false || decide ((Sum.inl i : Key) = .inr x)) = false
    rw [decide_eq_false (fun e => by cases e)]
    rfl
  | inr z =>
    show (decide (z ∈ l) || decide ((Sum.inr z : Key) = .inr x)) = decide (z ∈ l ++ [x])
    rw [← Bool.decide_or]
    exact decide_eq_decide.mpr (by rw [List.mem_append, List.mem_singleton]; exact ⟨fun h => h.imp_right Sum.inr.inj, fun h => h.imp_right (congrArg _)⟩)
section
variable {prog : Program} {w : World} {A : Around} {R : Result → Shared → Prop} {I : Addr} {fp wr : List Addr} {G : Array GenState → Array GenState → Prop} {n : Nat} {Pv : Nat → Value → Prop} {St : Nat → Shared → Prop}
theorem set_walk (W : WalksS prog w A.in1 I fp wr G n Pv St) (S : Addr) (off : S ∉ fp) (xs : List Str) (len : xs.length = n) (room : n + 1 < scanBound) (val : ∀ i v, Pv i v → ∃ x t, xs[i]? = some x ∧ v = .str x t) :
    ∀ (k i : Nat) (s : Shared), n - i = k → i ≤ n → St i s → (∃ c, c ≤ i ∧ s.heap.SetOf (mixKind prog w) S (inL (xs.take i)) c) →
      (∀ s' c, Moved (S :: wr) G s s' → c ≤ n → s'.heap.SetOf (mixKind prog w) S (inL xs) c → R (.ok (.ret .none)) s') → codeAny (model prog w) A (.builtin "set.update.loop" ⟨[.ref S, .ref I], []⟩) R s := by
  have more : ∀ b ∈ wr, b ∈ S :: wr := fun b => List.mem_cons_of_mem _
  have out : S ∉ wr := fun z => off (W.sub _ z)
  intro k
  induction k with
  | zero =>
    intro i s e0 le st ⟨c, hc, set⟩ fin
    obtain rfl : i = n := by omega
    refine codeAny_builtin PyProof.Rows.F.entry_set_update_loop ?_; rw [Around.under_plainId PyProof.Rows.F.plain_set_update_loop _]
    show wpAny _ A.in1 (pyNext (.ref I) >>= _) (fun _ _ => _) (fun _ _ => _) s
    refine wpAny_bind (W.done s _ _ st fun s1 mv => ?_)
    refine (show wpAny _ A.in1 (ret Value.none) _ _ s1 from wpAny_pure (fin s1 c (mv.mono more) hc ?_))
    rw [← len, List.take_length] at set
    exact setOf_at set fun o q => mv.heap S o out q
  | succ k ih =>
    intro i s e0 le st ⟨c, hc, set⟩ fin
    have lt : i < n := by omega
    refine codeAny_builtin PyProof.Rows.F.entry_set_update_loop ?_; rw [Around.under_plainId PyProof.Rows.F.plain_set_update_loop _]
    show wpAny _ A.in1 (pyNext (.ref I) >>= _) (fun _ _ => _) (fun _ _ => _) s
    refine wpAny_bind (W.item i s _ _ lt st fun v s1 pv st1 mv => ?_)
    obtain ⟨x, t, hx, rfl⟩ := val i v pv
    have set1 := setOf_at set fun o q => mv.heap S o out q
    show wpAny _ A.in1 (holding [Value.str x t] (setAdd S (.str x t)) >>= _) _ _ s1
    refine wpAny_bind (wpAny_holding ?_)
    unfold setAdd
    refine wpAny_holding (wpAny_bind ((mixKind prog w).pyHash (k := .inr x) (mixKind_str prog w x t) ?_))
    refine wpAny_setAddHashed_of (knd := mixKind prog w) (k := .inr x) (s := { s1 with toks := s1.toks + 1 }) (mixKind_str prog w x t) rfl set1 (by omega) fun h' sb set2 => ?_
    have set3 : ∃ c', c' ≤ i + 1 ∧ h'.SetOf (mixKind prog w) S (inL (xs.take (i + 1))) c' := by
      have e : (fun j => inL (xs.take i) j || decide (j = .inr x)) = inL (xs.take (i + 1)) := funext fun k' => by rw [List.take_add_one, hx]; exact inL_snoc _ _ _
      rw [← e]
      exact ⟨_, by split <;> omega, set2⟩
    have keep : ∀ b, b ≠ S → ∀ o, s1.heap.get? b = some o → h'.get? b = some o := fun b hb o q => (sb.2 b hb).trans q
    refine wpAny_pure ⟨plainId_quiet PyProof.Rows.F.plain_set_update_loop _, ih (i + 1) _ (by omega) lt (W.frame _ s1 _ _ st1 (Nat.le_succ _) fun b hb o q => keep b (fun z => off (z ▸ hb)) o q) set3 fun s2 c2 mv2 hc2 set4 => ?_⟩
    exact fin s2 c2 (Moved.trans W.gtrans ((mv.mono more).then_heap (Nat.le_succ _) fun b o hb q => keep b (fun z => hb (z ▸ List.mem_cons_self)) o q) mv2) hc2 set4
end
section
variable {prog : Program} {w : World} {A : Around} {E : Value → Shared → Prop} {s : Shared}
theorem set_list_call {l : Addr} {its : Array Value} {xs : List Str} {Q : Value → Shared → Prop} (hh : A.handled = none) (isl : s.heap.IsList l its) (vals : ∀ (i : Nat) (v : Value), its[i]? = some v → ∃ x t, xs[i]? = some x ∧ v = .str x t) (len : xs.length = its.size) (room : xs.length + 1 < scanBound)
    (fin : ∀ (h' : Heap) (tk c : Nat), c ≤ xs.length → h'.SetOf (mixKind prog w) s.heap.objs.size (inL xs) c → (∀ b o, s.heap.get? b = some o → h'.get? b = some o) → Q (.ref s.heap.objs.size) { s with heap := h', toks := tk }) :
    wpAny (model prog w) A (call (.type "set") [.ref l]) Q E s := by
  obtain ⟨c0, tl0, mro0⟩ := PySem.F.called_set.mro
  have made0 := PySem.F.called_set.made; have sub0 := PySem.F.called_set.sub; have nt0 := PySem.F.called_set.notType
  have cc0 := PySem.F.called_set.canCreate; have tc0 := PySem.F.typeCall_set_1 (.ref l)
  refine wpAny_call (codeAny_of_tree (show wpAny _ _ (callAny (.type "set") _) _ _ _ from wpAny_pure ⟨Code.quiet_builtin _ (by decide +kernel), codeAny_builtin PySem.F.entry_type_call ?_⟩))
  rw [Around.under_plain (weight_type_call_type "set" ([.ref l] : List Value) []) rfl]
  repeat any_goals (first | assumption | wp_step)
  have new0 : ∀ led : Bool, (s.heap.push { cls := .type "set", dict := none, data := .set #[] 0 (.fresh 0 0 led) }).get? s.heap.objs.size = some { cls := .type "set", dict := none, data := .set #[] 0 (.fresh 0 0 led) } := fun led => Heap.get?_push_size _ rfl
  refine codeAny_mono (code_set_new_1 (.ref l) (E := E) (Q₁ := fun ob s₁ => ∃ led : Bool, ob = .ref s.heap.objs.size ∧ s₁ = { s with heap := s.heap.push { cls := .type "set", dict := none, data := .set #[] 0 (.fresh 0 0 led) } }) fun led => ⟨led, rfl, rfl⟩) fun res s₁ hres => ?_
  match res, hres with
  | .error _, hres => exact hres
  | .ok .next, hres => exact hres.elim
  | .ok .brk, hres => exact hres.elim
  | .ok .cont, hres => exact hres.elim
  | .ok (.ret ob), hres =>
  obtain ⟨led, rfl, rfl⟩ := hres
  have ty0 : Shared.TypeIs { s with heap := s.heap.push { cls := .type "set", dict := none, data := .set #[] 0 (.fresh 0 0 led) } } (.ref s.heap.objs.size) "set" := ⟨_, new0 led, rfl⟩
  have il0 := PySem.F.called_set.init.lookup; have ib0 := PySem.F.called_set.init.bind (.ref s.heap.objs.size)
  repeat any_goals (first | assumption | wp_step)
  refine codeAny_mono (codeAny_call_builtin (R := wants (fun r s₂ => r = .none ∧ ∃ h' tk c, s₂ = { s with heap := h', toks := tk } ∧ c ≤ xs.length ∧ h'.SetOf (mixKind prog w) s.heap.objs.size (inL xs) c ∧ (∀ b o, s.heap.get? b = some o → h'.get? b = some o)) E) PySem.F.called_set.init.plain PySem.F.entry_set_init (check_set_init_1 ty0 ?_)) fun res2 s₂ hres2 => ?_
  · obtain ⟨⟨cl, di, da, sl⟩, ho, hc, nl, hd⟩ := isl
    simp only at hc hd
    subst hc
    subst hd
    have ho1 : (s.heap.push { cls := .type "set", dict := none, data := .set #[] 0 (.fresh 0 0 led) }).get? l = some { cls := .type "list", dict := di, data := .seq its nl, slots := sl } := Heap.get?_push_of_some _ ho
    have q1 := PySem.F.sub_list_set; have q2 := PySem.F.sub_list_frozenset; have q3 : (Value.type "list" == Value.type "dict") = false := by decide
    have isl1 : (s.heap.push { cls := .type "set", dict := none, data := .set #[] 0 (.fresh 0 0 led) }).IsList l its := ⟨_, ho1, rfl, nl, rfl⟩
    unfold Builtin.«set.__init__» noKeywords Builtin.Frozenset.updateFrom; generalize eI : pyIter = itr
    wp_walk
    subst eI
    refine wpAny_pyIter_list isl1 (wpAny_bind (wpAny_runValue ?_))
    have lt0 : l < s.heap.objs.size := Heap.lt_size ho
    have nI : l ≠ (s.heap.push { cls := .type "set", dict := none, data := .set #[] 0 (.fresh 0 0 led) }).objs.size := by rw [Heap.size_push]; exact Nat.ne_of_lt (Nat.lt_succ_of_lt lt0)
    have nS : s.heap.objs.size ∉ [(s.heap.push { cls := .type "set", dict := none, data := .set #[] 0 (.fresh 0 0 led) }).objs.size, l] := by
      rw [Heap.size_push, List.mem_cons, List.mem_singleton]; exact fun z => z.elim (fun z => Nat.ne_of_lt (Nat.lt_succ_self _) z) fun z => Nat.ne_of_gt lt0 z
    refine set_walk ((Walks.list (show A.in1.in1.in1.handled = none by simp [hh]) _ l nI its).toS) s.heap.objs.size nS xs len (by omega) vals (its.size - 0) 0 _ (by omega) (Nat.zero_le _) ⟨⟨_, Heap.get?_push_size _ rfl, rfl, rfl⟩, (isl1.push _)⟩ ⟨0, Nat.le_refl _, ?z0⟩ ?z1
    case z0 =>
      have e : (fun _ => false) = inL (xs.take 0) := funext fun k => by cases k <;> first | rfl | exact (decide_eq_false (by simp)).symm
      rw [← e]
      exact ⟨_, #[], 0, _, Heap.get?_push_of_some _ (new0 led), ⟨rfl, rfl, rfl⟩, rfl, fun x hx => (by simp at hx), fun x => (by simp), (by decide), by rfl, rfl⟩
    case z1 =>
      intro s3 c3 mv hc3 set3
      obtain ⟨h', g', d', tk', os'⟩ := s3
      obtain rfl : g' = s.gens := mv.gens
      obtain rfl : d' = s.drawn := mv.drawn
      obtain rfl : os' = s.os := mv.os
      refine (show wpAny _ _ _ _ _ _ from wpAny_pure (show wpAny _ _ (ret Value.none) _ _ _ from wpAny_pure ⟨rfl, h', tk', c3, rfl, by omega, set3, fun b o q => ?_⟩))
      have lt : b < s.heap.objs.size := Heap.lt_size q
      refine mv.heap b o ?_ (Heap.get?_push_of_some _ (Heap.get?_push_of_some _ q))
      rw [Heap.size_push, List.mem_cons, List.mem_singleton]; exact fun z => z.elim (fun z => Nat.ne_of_lt lt z) fun z => Nat.ne_of_lt (Nat.lt_succ_of_lt lt) z
  · match res2, hres2 with
    | .error _, hres2 => exact hres2
    | .ok .next, hres2 => exact hres2.elim
    | .ok .brk, hres2 => exact hres2.elim
    | .ok .cont, hres2 => exact hres2.elim
    | .ok (.ret r), hres2 =>
      obtain ⟨rfl, h', tk, c, rfl, hc, set3, keep⟩ := hres2
      repeat any_goals (first | assumption | wp_step)
      exact fin h' tk c hc set3 keep
end
/-- set(l) of a list of texts -/
def rSetS (K : PySem.W.Frag) (P : Program) (w : World) : List V → Hp → VK → Prop := fun vs H Q => ∃ (a : Addr) (xs : List Str), vs = [.ref a] ∧ SqL K H a (xs.map V.str) ∧ xs.length ≤ 1000 ∧ ∀ p c, H p = none → c ≤ xs.length → Q (.ref p) (upd H p (SetK P w p (inL xs) c))
theorem strs_vals : ∀ {xs : List Str} {us : List Value}, Vals (xs.map V.str) us → us.length = xs.length ∧ ∀ (i : Nat) (v : Value), us[i]? = some v → ∃ x t, xs[i]? = some x ∧ v = .str x t
  | [], _, h => by cases h; exact ⟨rfl, fun i v h => by simp at h⟩
  | x :: xs, _, h => by
    cases h with
    | cons r t =>
      obtain ⟨l, g⟩ := strs_vals t
      obtain ⟨tk, rfl⟩ := r
      refine ⟨by rw [List.length_cons, List.length_cons, l], fun i v hv => ?_⟩
      cases i with
      | zero => cases hv; exact ⟨x, tk, rfl, rfl⟩
      | succ i => exact g i v hv
theorem cr_setS {X : Cx} (hc : X.calm = true) : CallR X (.type "set") (rSetS X.K X.prog X.w) := by
  intro pins s σ H vs us Q I r h
  obtain ⟨a, xs, rfl, hs, hl, q⟩ := h
  obtain ⟨u, rfl, ru⟩ := r.one
  cases ru
  obtain ⟨its, rv, isl, _⟩ := I.list hs
  obtain ⟨sl, vals⟩ := strs_vals rv
  refine set_list_call (xs := xs) (I.ok.hd hc) (show s.heap.IsList a its.toArray from isl.isList) (fun i v hv => vals i v (by simpa using hv)) (by rw [List.size_toArray, sl]) (by unfold scanBound; omega) fun h' tk c hcl set keep => ?_
  have nn : H s.heap.objs.size = none := I.hok.fresh (Nat.le_refl _)
  exact ⟨.ref s.heap.objs.size, _, I.laid (t' := tk) (o := SetK X.prog X.w s.heap.objs.size (inL xs) c) keep (Nat.le_refl _) (setK_new set), rfl, q _ c nn hcl⟩
/-! within a comprehension's block -/
section
variable {X : Cx} {P : Program} {w : World}
theorem or_sinK' (hP : X.prog = P) (hw : X.w = w) : OpR X (compareOp .In) (rSInK P w false) := by subst hP; subst hw; exact or_sinK
theorem or_snotinK' (hP : X.prog = P) (hw : X.w = w) : OpR X (compareOp .NotIn) (rSInK P w true) := by subst hP; subst hw; exact or_snotinK
end
end Nn

namespace Nn
open PySem PySem.Spec PyProof.Rows L2
/-! ### dict.get of a key that may be None (the dict's keys are numbers and texts) -/
section
variable {X : Cx} {pins : List (Addr × Obj)} {σ : L2.St} {H : Hp} {s : Shared} {a : Addr} {kvs : List (Key × V)} {A : Around} {E : Value → Shared → Prop} {d : V} {r : Value}
theorem d_getNone2 {Q : Value → Shared → Prop} (I : Inv X pins σ H s) (e : Rd H a (.dK kvs)) (rd : RelV d r) (h : ∀ w' s', Inv X pins σ H s' → RelV d w' → Q w' s') :
    wpAny (model X.prog X.w) A (call (.builtin "dict.get") [.ref a, .none, r]) Q E s := by
  obtain ⟨_, hd, vs, _, dd⟩ := dk_rd I.hok e
  obtain ⟨f, hm, hf⟩ := none_map dd
  refine call_meetsIn PySem.F.slot_dict_get dd.typeIs PySem.F.entry_dict_get (PySem.F.args_dict_get_3 _ _ _) (meets_dict_get_default (noneKind X.prog X.w) a (show (noneKind X.prog X.w).is none .none = true from rfl) hd r) ⟨_, hm, h _ _ (I.tok _) ?_⟩
  rw [hf]
  exact rd
end
def tDGet2N (td ty tx : TE) : TE := fun σ H Q => td σ H fun x H1 => ∃ a, x = .ref a ∧ IsD H1 a ∧ ty σ H1 fun y H2 => tx σ H2 fun z H3 => (∃ o, DGet H3 a y o ∧ Q (o.getD z) H3) ∨ ∃ kvs, y = .non ∧ Rd H3 a (.dK kvs) ∧ Q z H3
section
variable {X : Cx} {o e f : Expr} {apos cpos : Pos} {td ty tx : TE}
theorem pe_dget2N (hu : X.A.units + 1 < cLine) (ho : PE X o td) (he : PE X e ty) (hf : PE X f tx) (m : M2 X o "get" apos e f cpos) : PE X (.Call (.Attribute o "get" apos) [e, f] [] cpos) (tDGet2N td ty tx) := by
  refine ⟨fun pins s σ H Q I h => ?_⟩
  refine wpAny_Call_method m.base m.few m.line PySem.F.plainAttrs_dict PySem.F.slot_dict_get PySem.F.type_dict_get (thn (ho.run pins s σ H _ I h) fun u s1 ⟨x, H1, I1, rx, a, ex, d, q1⟩ => ?_)
  subst ex
  obtain rfl : u = Value.ref a := rx
  obtain ⟨t1, t2, _⟩ := isD_at I1 d
  refine ⟨t1, t2, ?_⟩
  rw [m.trees]
  refine Calls.callWith_builtin rfl (Calls.evalArgs_plain (Calls.spliced_cons (thn (he.run pins s1 σ H1 _ I1 q1) fun iv s2 ⟨y, H2, I2, ry, q2⟩ =>
    Calls.spliced_cons (thn (hf.run pins s2 σ H2 _ I2 q2) fun fv s3 ⟨z, H3, I3, rz, q3⟩ => Calls.spliced_nil ?_))))
  rcases q3 with ⟨ov, g, q3⟩ | ⟨kvs, ey, g, q3⟩
  · exact d_get2 hu I3 g ry rz fun w' s4 I4 rw' => ⟨_, H3, I4, rw', q3⟩
  · subst ey
    obtain rfl : iv = Value.none := ry
    exact d_getNone2 I3 g rz fun w' s4 I4 rw' => ⟨z, H3, I4, rw', q3⟩
end
theorem rd_dget2N {σ : L2.St} {H : Hp} {Q : VK} {td ty tx : TE} (k : td σ H fun x H1 => ∃ a, x = .ref a ∧ IsD H1 a ∧ ty σ H1 fun y H2 => tx σ H2 fun z H3 => (∃ o, DGet H3 a y o ∧ Q (o.getD z) H3) ∨ ∃ kvs, y = .non ∧ Rd H3 a (.dK kvs) ∧ Q z H3) : tDGet2N td ty tx σ H Q := k
end Nn

namespace Nn
open PySem PySem.Spec PyProof.Rows L2
/-! ### errors as values -/
section
variable {X : Cx} {pins : List (Addr × Obj)} {σ : L2.St} {H : Hp} {s : Shared}
/-- what is known of an object, said in another way -/
theorem inv_retag {a : Addr} {φ : Heap → Prop} {o' : HO} (I : Inv X pins σ H s) (ha : H a = some (.ext φ)) (new : ObjOk X.prog X.w H s.heap a o') : Inv X pins σ (upd H a o') s := by
  have old : ∀ {b : Addr} {o : HO}, H b = some o → (∀ ψ, o ≠ .ext ψ) → upd H a o' b = some o := fun {b o} e h => by
    rw [upd_ne (fun q => by rw [q, ha] at e; exact h φ (Option.some.inj e).symm)]; exact e
  have non : ∀ {b : Addr}, H b = none → upd H a o' b = none := fun {b} e => by
    rw [upd_ne (fun q => by rw [q, ha] at e; cases e)]; exact e
  refine ⟨I.ok, I.os, I.bare, ⟨I.base.keep, I.base.slot, fun b o e n x => non (I.base.free b o e n x), I.base.there, fun b xs q => old (I.base.tups b xs q) (fun _ h => by cases h), fun b o u q => old (I.base.frzs b o u q) (fun _ h => by cases h), fun b ps q => ?_⟩, I.loc, I.cell, non I.free, fun x c e => non (I.freeC x c e), fun p hp => ?_, fun b o e => ?_, I.len⟩
  · obtain ⟨m, r⟩ := I.base.tbls b ps q
    exact ⟨m, old r (fun _ h => by cases h)⟩
  · obtain ⟨p1, p2, p3, p4, p5⟩ := I.pin p hp
    exact ⟨p1, non p2, p3, p4, p5⟩
  · by_cases hb : b = a
    · subst hb
      rw [upd_same] at e
      cases e
      exact new.stay (fun _ _ _ q => q) (fun _ q => old q (fun _ h => by cases h)) fun _ _ q => old q (fun _ h => by cases h)
    · rw [upd_ne hb] at e
      exact (I.hok b o e).stay (fun _ _ _ q => q) (fun _ q => old q (fun _ h => by cases h)) fun _ _ q => old q (fun _ h => by cases h)
end
/-- X(e), an own error with an own __init__, as a value -/
def tMkV (C : Addr) (sp : Sp) (dvs : List V) (ta : TA) : TE := fun σ H Q => ta σ H fun vs H1 => vs.length ≤ 1000 ∧ ∀ a, H1 a = none → sp (.ref a :: (vs ++ dvs)) (upd H1 a (exo a C none))
  (fun v H2 => v = .non ∧ ∃ (d : Addr) (fs : List (Str × V)), H2 a = some (exo a C (some d)) ∧ H2 d = some (exd d fs) ∧ d ≠ a ∧ Q (.ref a) (upd (upd H2 a (ExH (.ref C) (some d) a)) d (.xd fs))) (fun _ _ _ => False)
section
variable {X : Cx} {e : Expr} {es : List Expr} {ta : TA} {p pos : Pos}
theorem pe_oexV {CX : CXT} {x : Str} {C fI : Addr} {k : Nat} {fd : FuncData} {ps : List Str} {sp : Sp} {ds : List Value} {dvs : List V} (T : OexC X.K C) (iC : PySem.W.findIn X.K (.ref C) "__init__" = some (some (.ref fI))) (tI : PySem.W.typeIn X.K (.ref fI) = some (.type "function"))
    (F1 : FnOk X.prog X.w X.K X.mg X.base CX k fI fd ps sp) (hr : Room (k + 1) X.A) (hb : Binds X.K fd ps ds) (hd : Vals dvs ds) (hx : Passes CX X (fun _ _ _ => False)) (hg : Gl X x) (hm : X.mg x = some (.ref C)) (ha : PA X (e :: es) ta)
    (hdb : (x == ("__debug__" : Str)) = false := by decide) (he : starEach (e :: es) X.env = (false, eval e X.env) :: starEach es X.env := by rfl) (hpl : (backTo pos (starEach es X.env)).any (·.1) = false := by rfl) :
    PE X (.Call (.Name x p) (e :: es) [] pos) (tMkV C sp dvs ta) := by
  refine ⟨fun pins s σ H Q I h => ?_⟩
  obtain ⟨nm, q, N, bs, bm, sn, sub, ab, col, dd, k0, k1, k2, k3, k5, hC, hbm⟩ := T.cls
  refine wpAny_Call_Name_kw (ld_glob I hg hm ?_ hdb)
  refine PySem.W.callWith_K (h₀ := X.base) I.ok.mod.kin T.kC (thn (ha.run pos pins s σ H _ I h) fun us s1 ⟨vs, H1, I1, r1, hz, q1⟩ => ⟨I1.kIn, ?_⟩) he hpl
  show wpAny _ _ (call (.ref C) us) _ _ _
  obtain ⟨hp, g, dr, tk, os⟩ := s1
  have hsz : hp.objs.size ≤ hp.objs.size + 1 := Nat.le_succ _
  have hn : H1 (hp.objs.size + 1) = none := I1.hok.fresh hsz
  have hq := q1 (hp.objs.size + 1) hn
  have kk : ∀ b o, hp.get? b = some o → ((hp.push (PySem.W.kdv_tup us)).push (PySem.HandSPX.excO C hp.objs.size)).get? b = some o := fun b o e => Heap.get?_push_of_some _ (Heap.get?_push_of_some _ e)
  have hget : ((hp.push (PySem.W.kdv_tup us)).push (PySem.HandSPX.excO C hp.objs.size)).get? (hp.objs.size + 1) = some (PySem.HandSPX.excO C hp.objs.size) := by heap_get
  have I2 : Inv X pins σ (upd H1 (hp.objs.size + 1) (exo (hp.objs.size + 1) C none)) ⟨(hp.push (PySem.W.kdv_tup us)).push (PySem.HandSPX.excO C hp.objs.size), g, dr, tk, os⟩ :=
    I1.laid (t' := tk) (a := hp.objs.size + 1) (o := exo (hp.objs.size + 1) C none) (h' := (hp.push (PySem.W.kdv_tup us)).push (PySem.HandSPX.excO C hp.objs.size)) kk hsz (exo_ok hget)
  have r2 : Vals (V.ref (hp.objs.size + 1) :: (vs ++ dvs)) (Value.ref (hp.objs.size + 1) :: (us ++ ds)) := .cons rfl (r1.append hd)
  have hl : (Value.ref (hp.objs.size + 1) :: us ++ ds).length = ps.length := by
    have e := r2.length
    rw [F1.len _ _ _ _ hq] at e
    exact e.symm
  have hus : us.length ≤ sizeLine := by
    rw [← Paired.length r1, sizeLine_eq]
    omega
  refine wpAny_call (PySem.HandSPX.call_own F.excBase_ValueError (fun Y => PySem.HandSPX.refsVE_contains Y bm hbm) (I1.kIn _ _ hC) (PySem.W.looks_findIn I1.kIn iC) (fun self => PySem.W.bind_fn I1.kIn self tI) hus
    (codeAny_mono (F1.run _ X.stack _ _ ⟨Value.ref (hp.objs.size + 1) :: us, []⟩ (Value.ref (hp.objs.size + 1) :: (us ++ ds)) _ _ (fun _ _ _ => False) (hr.make C us []) (I2.env0.make C us []) (hb _ (Value.ref (hp.objs.size + 1) :: us) I2.kIn hl) r2 hq) fun r s' hq' => ?_))
  cases r with
  | error er => exact hx pins σ _ _ er s' I2 hq'
  | ok fl =>
    cases fl with
    | ret u =>
      obtain ⟨v, H2, I3, rv, ev, d, fs, ea, ed, hne, q2⟩ := I2.after hq'
      subst ev
      obtain ⟨t1, he1⟩ := exo_at I3.hok ea
      have I4 := inv_retag I3 ea (exH_ok he1 ⟨rfl, rfl⟩ rfl)
      have ed' : upd H2 (hp.objs.size + 1) (ExH (.ref C) (some d) (hp.objs.size + 1)) d = some (exd d fs) := by rw [upd_ne hne]; exact ed
      have I5 := inv_retag (o' := .xd fs) I4 ed' (exd_at I3.hok ed)
      exact ⟨rv, V.ref (hp.objs.size + 1), _, I5, rfl, q2⟩
    | next => exact False.elim hq'
    | brk => exact False.elim hq'
    | cont => exact False.elim hq'
theorem pe_errV {j k : Nat} {C : Addr} {x fld : Str} {ok : V → Hp → Prop} {te : TE} (c : ErrMk X.prog X.w X.K X.mg X.base k x C fld ok) (hr : Room j X.A) (hk : k + 1 ≤ j) (hg : Gl X x) (he : PE X e te) (hdb : (x == ("__debug__" : Str)) = false := by decide)
    (hs : starEach [e] X.env = (false, eval e X.env) :: starEach [] X.env := by rfl) (hpl : (backTo pos (starEach [] X.env)).any (·.1) = false := by rfl) :
    PE X (.Call (.Name x p) [e] [] pos) (tMkV C (spErr C fld ok) [] (tCons te tNil)) := by
  obtain ⟨f, fd, ps, T, iC, tI, F, b, hm⟩ := c.ex
  exact pe_oexV T iC tI F (hr.mono hk) b .nil pass0 hg hm (pa_cons he pa_nil hs) hdb hs hpl
end
section
variable {σ : L2.St} {H H0 : Hp} {C : Addr} {fld : Str} {ok : V → Hp → Prop} {te : TE} {Q : VK} {y : V} {M : List Addr} {L T : List (Addr × HO)}
theorem rd_mkV {sp : Sp} (k : te σ H fun y H1 => [y].length ≤ 1000 ∧ ∀ a, H1 a = none → sp (.ref a :: ([y] ++ [])) (upd H1 a (exo a C none)) (fun v H2 => v = .non ∧ ∃ (d : Addr) (fs : List (Str × V)), H2 a = some (exo a C (some d)) ∧ H2 d = some (exd d fs) ∧ d ≠ a ∧ Q (.ref a) (upd (upd H2 a (ExH (.ref C) (some d) a)) d (.xd fs))) (fun _ _ _ => False)) :
    tMkV C sp [] (tCons te tNil) σ H Q := k
/-- the end of X(y) as a value -/
theorem rd_errV {E : XK} (ho : ∀ a, H a = none → ok y (upd H a (exo a C none))) (k : ∀ a d, H a = none → H d = none → d ≠ a → Q (.ref a) (upd (upd H a (ExH (.ref C) (some d) a)) d (.xd [(fld, y)]))) :
    [y].length ≤ 1000 ∧ ∀ a, H a = none → spErr C fld ok (.ref a :: ([y] ++ [])) (upd H a (exo a C none)) (fun v H2 => v = .non ∧ ∃ (d : Addr) (fs : List (Str × V)), H2 a = some (exo a C (some d)) ∧ H2 d = some (exd d fs) ∧ d ≠ a ∧ Q (.ref a) (upd (upd H2 a (ExH (.ref C) (some d) a)) d (.xd fs))) E := by
  refine ⟨(show 1 ≤ 1000 by decide), fun a ha => ⟨a, y, rfl, ho a ha, upd_same, fun dx hdx hne => ⟨rfl, dx, [(fld, y)], upd_same, ?_, hne, ?_⟩⟩⟩
  · rw [upd_ne hne, upd_same]
  · have hd : H dx = none := by rw [upd_ne hne] at hdx; exact hdx
    have e : upd (upd (upd (upd (upd H a (exo a C none)) dx (exd dx [(fld, y)])) a (exo a C (some dx))) a (ExH (.ref C) (some dx) a)) dx (.xd [(fld, y)]) = upd (upd H a (ExH (.ref C) (some dx) a)) dx (.xd [(fld, y)]) := by
      funext b
      by_cases h1 : b = dx
      · rw [h1, upd_same, upd_same]
      · rw [upd_ne h1, upd_ne h1]
        by_cases h2 : b = a
        · rw [h2, upd_same, upd_same]
        · rw [upd_ne h2, upd_ne h2, upd_ne h2, upd_ne h1, upd_ne h2]
    rw [e]
    exact k a dx ha hd hne
end
section
variable {C : Addr} {N : List Str} {vs : List V} {H : Hp} {Q : VK} {E : XK} {c c2 : Str}
/-- a row's number -/
def okJ : V → Hp → Prop := fun y _ => ∃ i : Int, y = .int i ∧ 0 ≤ i ∧ i < 10 ^ 12
theorem row_log {i : Int} (h0 : 0 ≤ i) (h1 : i < 10 ^ 12) : i.natAbs.log2 < 1920 := by
  have hb : i.natAbs < 2 ^ 40 := by omega
  exact Nat.lt_of_lt_of_le (PySem.Flt.log2_lt_of (by decide) hb) (by decide)
theorem sup_cIc (hc : c.length ≤ 1000) (hc2 : c2.length ≤ 1000) (fld : Str) (h : spErr C fld okJ vs H Q E) : spSup C N fld (tTexts [tC (.str c), tFmt (tVar 1), tC (.str c2)]) vs H Q E := by
  obtain ⟨a, y, rfl, ⟨i, rfl, h0, h1⟩, ha, k⟩ := h
  have s1 : (100000 : Nat) + 2000 ≤ sizeLine := by decide
  have l1 : (Str.empty ++ c).length ≤ sizeLine := by rw [Str.length_append]; show 0 + _ ≤ _; omega
  have l0 := PyProof.Rows.toString_length_le h0 (show 0 < 12 by decide) h1
  refine ⟨a, .int i, rfl, ha, c, rfl, l1, .int i, rfl, .inr ⟨i, rfl, row_log h0 h1, _, rfl, ?_, c2, rfl, ?_, (show 1 ≤ 1000 by decide), rfl, k⟩⟩
  · rw [Str.length_append, Str.length_append]; show 0 + _ + _ ≤ _; omega
  · rw [Str.length_append, Str.length_append, Str.length_append]; show 0 + _ + _ + _ ≤ _; omega
end
section
variable {X : Cx} {e : Expr} {te : TE} {p pos : Pos}
/-- NoName(e) as a value -/
def tMkN (C : Addr) (te : TE) : TE := fun σ H Q => te σ H fun _ H1 => ∀ a, H1 a = none → ∃ (b : Addr) (H0 : Hp), V.ref a = .ref b ∧ H0 b = none ∧ upd H1 a (ExO (.ref C) a) = upd H0 b (ExO (.ref C) b) ∧ Q (.ref b) (upd H0 b (ExH (.ref C) none b))
theorem pe_nonameV {x : Str} {C : Addr} (c : NoNameC X.K X.mg x C) (hg : Gl X x) (he : PE X e te) (hs : starEach [e] X.env = (false, eval e X.env) :: starEach [] X.env := by rfl) (hdb : (x == ("__debug__" : Str)) = false := by decide) :
    PE X (.Call (.Name x p) [e] [] pos) (tMkN C te) := by
  refine ⟨fun pins s σ H Q I h => ?_⟩
  have P := pe_exc1 (p := p) (pos := pos) F.excBase_ValueError c.ex c.g c.k hg he hs hdb
  refine wpAny_mono (P.run pins s σ H (fun x H1 => ∃ (b : Addr) (H0 : Hp), x = .ref b ∧ H0 b = none ∧ H1 = upd H0 b (ExO (.ref C) b) ∧ Q (.ref b) (upd H0 b (ExH (.ref C) none b))) I h) (fun u s1 hu => ?_) fun _ _ x => x
  obtain ⟨v, H1, I1, r1, b, H0, rfl, h0, rfl, q⟩ := hu
  obtain ⟨⟨oe, vs, ho, hz, hd, _⟩, _⟩ := (show ObjOk X.prog X.w (upd H0 b (ExO (.ref C) b)) s1.heap b (ExO (.ref C) b) from I1.hok b _ upd_same)
  have I2 := inv_retag (o' := ExH (.ref C) none b) I1 upd_same (exH_ok ho hz hd)
  have e : upd (upd H0 b (ExO (.ref C) b)) b (ExH (.ref C) none b) = upd H0 b (ExH (.ref C) none b) := by
    funext d
    by_cases h : d = b
    · rw [h, upd_same, upd_same]
    · rw [upd_ne h, upd_ne h, upd_ne h]
  rw [e] at I2
  exact ⟨_, _, I2, r1, q⟩
theorem rd_mkN {C : Addr} {σ : L2.St} {H : Hp} {Q : VK} (k : te σ H fun _ H1 => ∀ a, H1 a = none → ∃ (b : Addr) (H0 : Hp), V.ref a = .ref b ∧ H0 b = none ∧ upd H1 a (ExO (.ref C) a) = upd H0 b (ExO (.ref C) b) ∧ Q (.ref b) (upd H0 b (ExH (.ref C) none b))) : tMkN C te σ H Q := k
theorem mkN_end {C : Addr} {H1 : Hp} {Q : VK} (k : ∀ a, H1 a = none → Q (.ref a) (upd H1 a (ExH (.ref C) none a))) : ∀ a, H1 a = none → ∃ (b : Addr) (H0 : Hp), V.ref a = .ref b ∧ H0 b = none ∧ upd H1 a (ExO (.ref C) a) = upd H0 b (ExO (.ref C) b) ∧ Q (.ref b) (upd H0 b (ExH (.ref C) none b)) :=
  fun a ha => ⟨a, H1, rfl, ha, rfl, k a ha⟩
end
theorem rd_dpop1 {σ : L2.St} {H : Hp} {Q : VK} {td ty : TE} (k : td σ H fun x H1 => ∃ a, x = .ref a ∧ IsD H1 a ∧ ty σ H1 fun y H2 => ∃ kvs k v, H2 a = some (.dK kvs) ∧ y = kV k ∧ valV kvs k = some v ∧ Q v (upd H2 a (.dK (dropK kvs k)))) : tDPop1 td ty σ H Q := k
theorem rd_ddel {σ : L2.St} {H : Hp} {n : L2.St → Hp → Prop} {rt : VK} {bk ct : L2.St → Hp → Prop} {td ty : TE} (k : td σ H fun x H1 => ty σ H1 fun y H2 => ∃ a kvs k, x = .ref a ∧ H2 a = some (.dK kvs) ∧ y = kV k ∧ (valV kvs k).isSome = true ∧ n σ (upd H2 a (.dK (dropK kvs k)))) : sDDel td ty ⟨n, rt, bk, ct⟩ σ H := k
/-! ### what may raise, where it doesn't -/
section
variable {P : Program} {w : World} {K : PySem.W.Frag} {mg : Str → Option Value} {base : Heap} {k : Nat}
theorem noX {f : Addr} {fd : FuncData} {ps : List Str} {sp : Sp} (F : FnOk P w K mg base (L2.CX P w) k f fd ps sp) : FnOk P w K mg base CX0 k f fd ps (fun vs H Q _ => sp vs H Q fun _ _ _ => False) :=
  ⟨fun vs H Q E h => F.len vs H Q _ h, fun A outer s H args us vs Q E hr he hb hv hs => codeAny_mono (F.run A outer s H args us vs Q _ hr he hb hv hs) fun r s' h => by
    cases r with
    | error e =>
      obtain ⟨_, _, _, _, _, _, _, _, _, _, _, _, _, h⟩ := h
    | ok x => cases x <;> exact h⟩
theorem ClX.noX {x : Str} {sp sp' : Sp} (c : ClX P w K mg base k x sp) (h : ∀ vs H Q E, sp' vs H Q E → sp vs H Q fun _ _ _ => False) : Cl P w K mg base k x sp' := by
  obtain ⟨f, fd, ps, F, hm, kp, b⟩ := c.ex
  exact ⟨_, _, _, (Nn.noX F).imp h, hm, kp, b⟩
theorem MrX.noX {x : Str} {C : Addr} {sp sp' : Sp} (c : MrX P w K mg base k x C sp) (h : ∀ vs H Q E, sp' vs H Q E → sp vs H Q fun _ _ _ => False) : Mr P w K mg base k x C sp' := by
  obtain ⟨f, fd, ps, M, F, hm, b⟩ := c.ex
  exact ⟨_, _, _, M, (Nn.noX F).imp h, hm, b⟩
end
end Nn

namespace Nn
open PySem PySem.Spec PyProof.Rows L2
section
variable {X : Cx} {x : Str} {pos : Pos}
/-- a text of the module's top -/
theorem pe_gstr {z : Str} (hg : Gl X x) (h : ∃ t, X.mg x = some (.str z t)) (hd : (x == ("__debug__" : Str)) = false := by decide) : PE X (.Name x pos) (tC (.str z)) := by
  obtain ⟨t, h⟩ := h
  exact pe_glob hg h ⟨t, rfl⟩ hd
end
/-! ### d = {k: v for ..} (a statement of its own) -/
section
variable {X : Cx}
theorem sw_trueD {kx vx : Expr} {gs : List Comprehension} {scope : Scope} {pos py : Pos} {y : Str} {l : Nat} {env : Env} (hk : env.scope.kind = .function) (hy : env.scope.names.lookup y = some .local) (hl : (py.line == pos.line) = true)
    (ha : (scope.names.any fun (n, k) => n == y && (k == .local || k == .cell)) = false) : swapsWith (.DictComp kx vx gs scope pos) (some (.Name y py)) l env = pure true := by
  have ky : env.kindOf y = some .local := hy
  have hb : env.blockKind = .function := by unfold Env.blockKind; rw [hk]; rfl
  unfold swapsWith
  simp only [hb, ky, ha, Expr.pos, hl]
  rfl
theorem ps_setDc {i : Nat} {y : Str} {py : Pos} {kx vx tg iter : Expr} {ifs : List Expr} {scope : Scope} {own : List (Str × Nat)} {pos spos : Pos} {wi : TI} {g : TG} {tt : TT} {tk tv : TE} (hc : X.calm = true) (hN : X.N.Nodup) (hy : X.N[i]? = some y) (hyl : X.env.scope.names.lookup y = some .local)
    (hsw : swapsWith (.DictComp kx vx [⟨tg, iter, ifs, 0⟩] scope pos) (some (.Name y py)) spos.line X.env = pure true) (hi : PI X tg iter wi) (ok : BlkOk X.N X.env.scope scope own)
    (hg : ∀ (s : Shared) (H : Hp) (C : Addr) (cl : List (Str × Addr)) (fp : List Addr), PG (X.blk s H scope (compEnvC scope cl C X.env) fp) tg g) (ht : ∀ (s : Shared) (H : Hp) (C : Addr) (cl : List (Str × Addr)) (fp : List Addr), PTs (X.blk s H scope (compEnvC scope cl C X.env) fp) ifs tt)
    (hk : ∀ (s : Shared) (H : Hp) (C : Addr) (cl : List (Str × Addr)) (fp : List Addr), PE (X.blk s H scope (compEnvC scope cl C X.env) fp) kx tk)
    (he : ∀ (s : Shared) (H : Hp) (C : Addr) (cl : List (Str × Addr)) (fp : List Addr), PE (X.blk s H scope (compEnvC scope cl C X.env) fp) vx tv) (hs : ∀ x, foldedSetIterable iter X.env x = pure x := by intro _; rfl) :
    PS X (.Assign [.Name y py] (.DictComp kx vx [⟨tg, iter, ifs, 0⟩] scope pos) spos) (tAsg (tDc wi g tt tk tv (own.map (·.2))) (gName i)) := by
  refine ⟨fun pins s σ H D I h => ?_⟩
  rw [exec_Assign_Name_used _ _ _ _ hsw]
  refine wpAny_bind (wpAny_standAt (wpAny_bind ?_))
  show wpAny _ X.A (do let _ ← comprehension (.DictComp kx vx [⟨tg, iter, ifs, 0⟩] scope pos) scope X.env (firstIterPos [⟨tg, iter, ifs, 0⟩] pos) newDict false (eval iter X.env) (some (assign (.Name y py) X.env))) _ _ s
  have h : tDc wi g tt tk tv (own.map (·.2)) σ H (fun x H1 => gName i x σ H1 D.nx) := h
  refine wpAny_bind (thn (dc_core (Qf := fun _ s' => SP X pins D .next s') hc hN I hi ok hg ht hk he hs h fun L C s' m H' I' q hn f => ?_) fun _ s' hq => wpAny_pure (wpAny_pure hq))
  show wpAny _ _ (assign (.Name y py) X.env (.ref L)) _ _ _
  refine wpAny_assign_Name (store_ok2 (v := V.ref L) I' hN hy (.inl hyl) rfl (fun s2 I2 ⟨a, sb, ha⟩ => ?_) (.inr hyl))
  obtain ⟨f0, f1, f2, f3, f4, f5⟩ := f
  have haC : C ≠ a := by
    rcases ha with z | z
    · rw [z]; exact f1
    · exact fun e => f4 y a z e.symm
  refine ⟨m, hn.sameBut sb haC, fun h3 sb3 => ?_⟩
  exact ⟨_, H', I2.turned (t' := s2.toks) (fun b o hb e => (sb3.2 b hb).trans e) f0 f1 f3 f4 f5, q⟩
end
end Nn

namespace Nn
open PySem PySem.Spec PyProof.Rows L2
/-! ### a def with its code object known -/
section
variable {P : Program} {w : World} {K : PySem.W.Frag} {mg : Str → Option Value} {base : Heap}
theorem fun_okC {x qual : Str} {st : Stmt} {f : Addr} {fd : FuncData} {N ps : List Str} {k : Nat} {sp : Sp} (F : Fun K x qual st f fd) (S : FnScope N ps (defScope st)) (len : ∀ vs H Q E, sp vs H Q E → vs.length = ps.length)
    (hbody : ∀ (cdv : Value) (A : Around) (outer : List Env) (s : Shared) (H : Hp) (vs : List V) (Q : VK) (E : XK), PySem.W.codeIn K cdv qual = true → Room k (A.deeper (envOfC qual (defScope st) s.heap.objs.size f cdv)) → sp vs H Q E →
      ∃ t, PSs (cxOf CX0 P w K mg base N qual (defScope st) f cdv A outer s H E).nox (defBody st) t ∧ t { nx := fun _ H' => Q .non H', rt := Q } (start N vs) H) : FnOk P w K mg base CX0 (k + 1) f fd ps sp := by
  obtain ⟨oc, od, kV, doc, pm, an, cdv, ct, osl, rfl, lk, hcd⟩ := F.ex
  refine fn_of lk hcd S len fun A outer s H vs Q E hr hsp => ?_
  obtain ⟨t, h, q⟩ := hbody cdv A outer s H vs Q E hcd hr hsp
  exact ⟨t, h.nox, q⟩
theorem fun_okCX {x qual : Str} {st : Stmt} {f : Addr} {fd : FuncData} {N ps : List Str} {k : Nat} {sp : Sp} (F : Fun K x qual st f fd) (S : FnScope N ps (defScope st)) (len : ∀ vs H Q E, sp vs H Q E → vs.length = ps.length)
    (hbody : ∀ (cdv : Value) (A : Around) (outer : List Env) (s : Shared) (H : Hp) (vs : List V) (Q : VK) (E : XK), PySem.W.codeIn K cdv qual = true → Room k (A.deeper (envOfC qual (defScope st) s.heap.objs.size f cdv)) → sp vs H Q E →
      ∃ t, PSs (cxOf (L2.CX P w) P w K mg base N qual (defScope st) f cdv A outer s H E) (defBody st) t ∧ t { nx := fun _ H' => Q .non H', rt := Q } (start N vs) H) : FnOk P w K mg base (L2.CX P w) (k + 1) f fd ps sp := by
  obtain ⟨oc, od, kV, doc, pm, an, cdv, ct, osl, rfl, lk, hcd⟩ := F.ex
  exact fn_of lk hcd S len fun A outer s H vs Q E hr hsp => hbody cdv A outer s H vs Q E hcd hr hsp
end
/-! ### sets of texts and None -/
def kO (o : Option Str) : Option Key := o.map .inr
def inN (l : List (Option Str)) : Option Key → Bool
  | none => decide (none ∈ l)
  | some (.inl _) => false
  | some (.inr z) => decide (some z ∈ l)
theorem inN_kO (l : List (Option Str)) (o : Option Str) : inN l (kO o) = decide (o ∈ l) := by cases o <;> rfl
theorem inN_snoc (l : List (Option Str)) (o : Option Str) (k : Option Key) : (inN l k || decide (k = kO o)) = inN (l ++ [o]) k := by
  cases k with
  | none =>
    show (decide (none ∈ l) || decide (none = kO o)) = decide (none ∈ l ++ [o])
    rw [← Bool.decide_or]
    refine decide_eq_decide.mpr ?_
    rw [List.mem_append, List.mem_singleton]
    cases o <;> simp [kO]
  | some k =>
    cases k with
    | inl i =>
      show (false || decide (some (Sum.inl i : Key) = kO o)) = false
      rw [Bool.false_or]
      exact decide_eq_false (fun e => by cases o <;> simp [kO] at e)
    | inr z =>
      show (decide (some z ∈ l) || decide (some (Sum.inr z : Key) = kO o)) = decide (some z ∈ l ++ [o])
      rw [← Bool.decide_or]
      refine decide_eq_decide.mpr ?_
      rw [List.mem_append, List.mem_singleton]
      cases o <;> simp [kO]
/-- the set at a: just the things of l -/
def SetN (P : Program) (w : World) (a : Addr) (l : List (Option Str)) : HO := .ext fun h => ∃ n, n ≤ l.length ∧ h.SetOf (noneKind P w) a (inN l) n
section
variable {X : Cx}
theorem setN_at {P : Program} {w : World} {h h' : Heap} {a : Addr} {S : Option Key → Bool} {n : Nat} (R : h.SetOf (noneKind P w) a S n) (k : ∀ o, h.get? a = some o → h'.get? a = some o) : h'.SetOf (noneKind P w) a S n := by
  obtain ⟨o, es, ep, t, ho, r⟩ := R
  exact ⟨o, es, ep, t, k o ho, r⟩
theorem setN_new {w : World} {P : Program} {H : Hp} {h : Heap} {a : Addr} {l : List (Option Str)} {n : Nat} (hn : n ≤ l.length) (R : h.SetOf (noneKind P w) a (inN l) n) : ObjOk P w H h a (SetN P w a l) := by
  have ⟨o, _, _, _, ho, _⟩ := R
  exact ⟨⟨n, hn, R⟩, ⟨o, ho⟩, fun h1 h2 ⟨m, hm, p⟩ k => ⟨m, hm, setN_at p k⟩⟩
theorem setN_get {pins : List (Addr × Obj)} {σ : L2.St} {H : Hp} {s : Shared} {a : Addr} {l : List (Option Str)} (I : Inv X pins σ H s) (ha : H a = some (SetN X.prog X.w a l)) : ∃ n, n ≤ l.length ∧ s.heap.SetOf (noneKind X.prog X.w) a (inN l) n := (I.hok a _ ha).1
theorem ov_is {o : Option Str} {u : Value} (r : RelV (ov o) u) (P : Program) (w : World) : (noneKind P w).is (kO o) u = true := by
  cases o with
  | none =>
    cases (show u = Value.none from r)
    rfl
  | some z => exact (kV_is (k := .inr z) r : (mixKind P w).is (.inr z) u = true)
theorem ov_scan {o : Option Str} {u : Value} (r : RelV (ov o) u) : u.scannable = true := by
  cases o with
  | none =>
    cases (show u = Value.none from r)
    rfl
  | some z => exact key_scan (k := .inr z) r
/-- x in s -/
def rSInN (P : Program) (w : World) : V → V → Hp → VK → Prop := fun x y H Q => ∃ (o : Option Str) (a : Addr) (l : List (Option Str)), x = ov o ∧ y = V.ref a ∧ H a = some (SetN P w a l) ∧ Q (.bl (decide (o ∈ l))) H
theorem or_sinN : OpR X (compareOp .In) (rSInN X.prog X.w) := by
  intro pins s σ H x y v u Q I rx ry h
  obtain ⟨o, a, l, rfl, rfl, ha, q⟩ := h
  cases ry
  obtain ⟨n, hn, R⟩ := setN_get I ha
  exact wpAny_inSet_of (knd := noneKind X.prog X.w) (k := kO o) (ov_is rx _ _) (ov_scan rx) R ⟨.bl (inN l (kO o)), H, I.tok _, rfl, by rw [inN_kO]; exact q⟩
/-- s.add(x) -/
def rSAddN (P : Program) (w : World) : V → List V → Hp → VK → Prop := fun x xs H Q => ∃ (a : Addr) (o : Option Str) (l : List (Option Str)), x = V.ref a ∧ xs = [ov o] ∧ H a = some (SetN P w a l) ∧ l.length < 500 ∧ Q .non (upd H a (SetN P w a (l ++ [o])))
theorem mt_saddN : MtR X "set.add" (rSAddN X.prog X.w) := by
  intro pins s σ H x xs v us Q I rx rxs h
  obtain ⟨a, o, l, rfl, rfl, ha, room, q⟩ := h
  cases rx
  cases rxs with
  | cons ry rt =>
    cases rt
    obtain ⟨n, hn, R⟩ := setN_get I ha
    refine call_set_add (knd := noneKind X.prog X.w) (k := kO o) (ov_is ry _ _) (ov_scan ry) R (by unfold scanBound; omega) fun h' sb new => ?_
    rw [show (fun k' => inN l k' || decide (k' = kO o)) = inN (l ++ [o]) from funext fun k => inN_snoc l o k] at new
    have he : ∃ u, h'.get? a = some u := by
      have ⟨o, _, _, _, ho, _⟩ := new
      exact ⟨o, ho⟩
    exact ⟨.non, upd H a (SetN X.prog X.w a (l ++ [o])), I.write (e := a) (t' := s.toks + 1) (by rw [ha]; trivial) (.inl rfl) (fun b u hb hu => (sb.2 b hb).trans hu) he (setN_new (by
      have h1 : (if inN l (kO o) = true then n else n + 1) ≤ n + 1 := by split <;> omega
      rw [List.length_append]
      exact Nat.le_trans h1 (Nat.succ_le_succ hn)) new), rfl, q⟩
def tSAddN (P : Program) (w : World) (to : TE) (t : TA) : TE := fun σ H Q => to σ H fun x H1 => (∃ a l, x = V.ref a ∧ H1 a = some (SetN P w a l)) ∧ t σ H1 fun xs H2 => rSAddN P w x xs H2 Q
variable {o e : Expr} {es : List Expr} {to : TE} {t : TA} {apos cpos : Pos}
theorem pe_saddN (ho : PE X o to) (ha : PA X (e :: es) t)
    (hbase : attributeBase o "add" X.env (eval o X.env) = eval o X.env := by rfl)
    (hfew : ((backTo cpos (starEach (e :: es) X.env)).all (fun x => !x.1) && (backToKw cpos (keywordEach [] X.env)).all (fun x => x.1.isSome)
      && decide ((e :: es).length + ([] : List Keyword).length + (if ([] : List Keyword).isEmpty then 0 else 1) < 30)) = true := by rfl)
    (hline : (apos.endLine == cpos.line) = true := by rfl) (hs : starEach (e :: es) X.env = (false, eval e X.env) :: starEach es X.env := by rfl) (hplain : (backTo cpos (starEach es X.env)).any (·.1) = false := by rfl) :
    PE X (.Call (.Attribute o "add" apos) (e :: es) [] cpos) (tSAddN X.prog X.w to t) := by
  refine ⟨fun pins s σ H Q I h => ?_⟩
  refine wpAny_Call_method_late hbase hfew hline rfl (thn (ho.run pins s σ H _ I h) fun v s1 ⟨x, H1, I1, r1, ty, q1⟩ => ?_)
  obtain ⟨a, l, rfl, hka⟩ := ty
  obtain ⟨n, hn, hS⟩ := setN_get I1 hka
  cases r1
  refine ⟨"set", "set.add", F.plainAttrs_set, F.slot_set_add, F.type_set_add, hS.typeIs, hS.noDict, ?_⟩
  have hA := ha.run cpos pins s1 σ H1 _ I1 q1
  rw [hs] at hA ⊢
  refine Calls.callWith_builtin (by show (false || (backTo cpos (starEach es X.env)).any (·.1)) = false; rw [hplain] <;> rfl) (Calls.evalArgs_plain ?_)
  exact thn hA fun us s2 ⟨vs, H2, I2, r2, q2⟩ => mt_saddN pins s2 σ H2 (.ref a) vs (.ref a) us Q I2 rfl r2 q2
/-- {x} -/
def tSet1 (P : Program) (w : World) (te : TE) : TE := fun σ H Q => te σ H fun x H1 => ∃ o : Option Str, x = ov o ∧ ∀ p, H1 p = none → Q (.ref p) (upd H1 p (SetN P w p [o]))
theorem pe_set1 {te : TE} {pos : Pos} (he : PE X e te) (hpl : PySem.W.kdsPlain e = true) (hcd : PySem.W.kdsCode X.K X.env.code = true) (hex : X.ex = []) : PE X (.Set [e] 0 pos) (tSet1 X.prog X.w te) := by
  refine ⟨fun pins s σ H Q I h => ?_⟩
  rw [arm_eval_Set]
  refine wpAny_bind (wpAny_standAt ?_)
  refine wpAny_bind (PySem.W.kds_main I.kIn hcd fun b => ?_)
  rw [PySem.W.kds_star [e] (by simp [hpl]), List.map_map]
  refine PySem.W.kds_core (ts := (evalEach [e] X.env).map fun t => do let v ← t; standAt pos; pure v) (road0 [e]) ?_ ?_ ?_ fun led => ?_
  · refine List.findIdx?_eq_none_iff.mpr fun x hx => ?_
    obtain ⟨t, _, rfl⟩ := List.mem_map.mp hx
    rfl
  · rw [List.length_map, PySem.W.kds_len]
    show 1 ≤ 30
    decide
  · rw [List.map_map]
    try rfl
  · refine PySem.W.kds_all pos [e] _ _ ?_
    let D := s.heap.objs.size
    let so : Obj := { cls := .type "set", dict := none, data := .set #[] 0 (.fresh 0 0 led) }
    have k1 : ∀ b o, s.heap.get? b = some o → (s.heap.push so).get? b = some o := fun b o e => Heap.get?_push_of_some _ e
    have hu : (s.heap.push so).get? D = some so := Heap.get?_push_size _ rfl
    have hfree : H D = none := I.hok.fresh (Nat.le_refl _)
    have I1 : Inv X (pins ++ [(D, so)]) σ H { s with heap := s.heap.push so } := (I.kept (t' := s.toks) k1).pins_of fun p hp => by
      rcases List.mem_append.mp hp with hp | hp
      · obtain ⟨p1, p2, p3, p4, p5⟩ := I.pin p (List.mem_append_right _ hp)
        exact ⟨k1 _ _ p1, p2, p3, p4, p5⟩
      · obtain rfl := List.mem_singleton.mp hp
        exact ⟨hu, hfree, Nat.ne_of_gt I.lt, I.nofs (Nat.le_refl _), fun v z => nomatch z⟩
    show wpAny _ _ (eval e X.env) _ _ _
    refine thn (he.run (pins ++ [(D, so)]) _ σ H _ I1 h) fun v s1 ⟨x, H1, I2, rx, o, ex, q⟩ => ?_
    subst ex
    have hp := I2.pin (D, so) (List.mem_append_right _ (List.mem_append_right _ List.mem_cons_self))
    have I3 : Inv X pins σ H1 s1 := I2.pins_of fun p hp => I2.pin p (List.mem_append_right _ (List.mem_append_left _ hp))
    have R0 : s1.heap.SetOf (noneKind X.prog X.w) D (inN []) 0 := by
      have R1 : s1.heap.SetOf (mixKind X.prog X.w) D (fun _ => false) 0 := ⟨so, #[], 0, _, hp.1, ⟨rfl, rfl, rfl⟩, rfl, (fun e he => by simp at he), (fun k => by simp), (by decide), (by rfl), rfl⟩
      have R := setOf_none R1
      have e : ∀ {S : Option Key → Bool}, s1.heap.SetOf (noneKind X.prog X.w) D S 0 → (∀ k, S k = inN [] k) → s1.heap.SetOf (noneKind X.prog X.w) D (inN []) 0 := fun {S} R h => by
        rw [← show S = inN [] from funext h]; exact R
      exact e R fun k => by
        cases k with
        | none => rfl
        | some k => cases k <;> rfl
    refine PySem.W.kds_fill_cons ?_
    unfold setAdd
    refine wpAny_holding (wpAny_bind ((noneKind X.prog X.w).pyHash (k := kO o) (ov_is rx _ _) ?_))
    refine wpAny_setAddHashed_of (knd := noneKind X.prog X.w) (s := { s1 with toks := s1.toks + 1 }) (ov_is rx _ _) (ov_scan rx) R0 (by decide) fun h' sb R1 => ?_
    have R2 : h'.SetOf (noneKind X.prog X.w) D (inN [o]) 1 := by
      have e1 : (fun k' => inN [] k' || decide (k' = kO o)) = inN [o] := funext fun k => inN_snoc [] o k
      rw [e1, show inN [] (kO o) = false by rw [inN_kO]; rfl, if_neg (by decide)] at R1
      exact R1
    refine PySem.W.kds_fill_nil (by rfl) ?_
    have hn : H1 D = none := hp.2.1
    have hs0 : s.heap.get? D = none := by
      cases q : s.heap.get? D with
      | none => rfl
      | some o' => exact absurd (Heap.lt_size q) (Nat.lt_irrefl _)
    have h0 : X.s_0.heap.get? D = none := by
      cases q : X.s_0.heap.get? D with
      | none => rfl
      | some o' =>
        obtain ⟨o2, q2⟩ := I.base.there D o' q (by rw [hex]; simp)
        rw [hs0] at q2
        cases q2
    have nC : ∀ y c, X.env.cells.lookup y = some c → c ≠ D := fun y c e q => by
      obtain ⟨v, o', q2, _⟩ := I.cell y c e
      rw [q, hs0] at q2
      cases q2
    have nP : ∀ p ∈ X.pn ++ pins, p.1 ≠ D := fun p hp q => by
      have q2 := (I.pin p hp).1
      rw [q, hs0] at q2
      cases q2
    have new0 : ObjOk X.prog X.w H1 s1.heap D (SetN X.prog X.w D []) := setN_new (n := 0) (Nat.le_refl _) R0
    have I4 : Inv X pins σ (upd H1 D (SetN X.prog X.w D [])) s1 := inv_track I3 h0 hn (Nat.ne_of_gt I.lt) nC nP new0
    have hx : ∃ u, h'.get? D = some u := by
      have ⟨o2, _, _, _, ho2, _⟩ := R2
      exact ⟨o2, ho2⟩
    have I5 := I4.write (x := D) (e := D) (t' := s1.toks + 1) (h' := h') (o := SetN X.prog X.w D [o]) (by rw [upd_same]; trivial) (.inl rfl) (fun b u hb e => (sb.2 b hb).trans e) hx (setN_new (Nat.le_refl _) R2)
    have e2 : upd (upd H1 D (SetN X.prog X.w D [])) D (SetN X.prog X.w D [o]) = upd H1 D (SetN X.prog X.w D [o]) := funext fun b => by
      by_cases hb : b = D
      · rw [hb, upd_same, upd_same]
      · rw [upd_ne hb, upd_ne hb, upd_ne hb]
    rw [e2] at I5
    exact ⟨.ref D, upd H1 D (SetN X.prog X.w D [o]), I5, rfl, q D hn⟩
end
/-! ### enumerate(list, start=k) -/
/-- the list at a as it stands at each turn, each item in a new pair with its number, counted from c -/
def Ites (K : PySem.W.Frag) (a : Addr) (c : Int) : It :=
  ⟨fun i H => ∃ (xs : List V) (x : V), SqL K H a xs ∧ xs[i]? = some x, fun i H v H' => ∃ T x, v = .ref T ∧ H T = none ∧ H' = upd H T (.tup [.int (c + (i : Nat)), x]) ∧ ∀ xs, SqL K H a xs → xs[i]? = some x, fun i H => ∃ xs : List V, SqL K H a xs ∧ xs.length = i⟩
theorem turn_enumS {P : Program} {w : World} {K : PySem.W.Frag} {elts : List Expr} {kk : Nat} {tpos : Pos} (c : Int) (a e it : Addr) :
    Turn P w K (.Tuple elts kk tpos) (Ites K a c) [e, it] e (fun i h => (∃ old, IsEnum h e it (c + ((i : Nat) : Int)) old) ∧ h.IsListIter it a i ∧ e ≠ it) where
  mem := by simp
  obj := fun i h st b hb => by
    obtain ⟨⟨old, he⟩, ⟨o, ho, hc, hd⟩, _⟩ := st
    have e' : b = e ∨ b = it := by simpa using hb
    rcases e' with z | z
    · rw [z]; exact ⟨_, he, fun v q => nomatch q⟩
    · rw [z]; exact ⟨o, ho, fun v q => by rw [hd] at q; cases q⟩
  keep := fun i h h' st k => let ⟨⟨old, he⟩, hi, hne⟩ := st; ⟨⟨old, k e (by simp) _ he⟩, hi.at fun o q => k it (by simp) o q, hne⟩
  item := by
    intro X hP hw hK hc i pins s σ H E I hf st hg
    subst hP hw hK
    obtain ⟨⟨old, he⟩, hit, hne⟩ := st
    obtain ⟨xs, x, hq, hx⟩ := hg
    obtain ⟨its, rv, p, hz⟩ := I.list hq
    obtain ⟨u, hu, ru⟩ := rv.get hx
    have hel : e < s.heap.objs.size := Heap.lt_size he
    have hil : it < s.heap.objs.size := by obtain ⟨_, q, _⟩ := hit; exact Heap.lt_size q
    have hai : a ≠ it := fun q => by
      obtain ⟨o1, h1, c1, _⟩ := p.isList
      obtain ⟨o2, h2, c2, _⟩ := hit
      rw [q, h2] at h1
      cases h1
      rw [c2] at c1
      exact absurd c1 (by decide)
    have hae : e ≠ a := fun q => by
      obtain ⟨o1, h1, c1, _⟩ := p.isList
      rw [← q, he] at h1
      cases h1
      have c1 : Value.type "enumerate" = Value.type "list" := c1
      exact absurd c1 (by decide)
    have iu : its.toArray[i]? = some u := by simpa using hu
    have hil2 : i < its.toArray.size := (Array.getElem?_eq_some_iff.mp iu).1
    refine wpAny_pyNext_enum_itemC (Draws.list (A := X.A.in1) (I.ok.hd hc) it a hai its.toArray) he ⟨hit, p.isList⟩ hil2 hne (by simp [hne, hae]) fun x' h' tk hx' ho hit' hT hsz hk => ?_
    have hx' : its.toArray[i]? = some x' := hx'
    rw [iu] at hx'
    cases hx'
    refine ⟨_, rfl, wpAny_letOwnedTupleGo_enum (s := { s with heap := h', toks := tk + 1 }) ho fun h'' he' sb => ?_⟩
    have hT2 : h''.get? s.heap.objs.size = some { cls := .type "tuple", data := .seq #[.int (c + (i : Nat)) tk, u] } := (sb.2 _ (Nat.ne_of_gt hel)).trans hT
    have new : ObjOk X.prog X.w (upd H s.heap.objs.size (.tup [.int (c + (i : Nat)), x])) h'' s.heap.objs.size (.tup [.int (c + (i : Nat)), x]) :=
      ⟨by show 2 ≤ sizeLine; decide, [.int (c + (i : Nat)) tk, u], .cons ⟨_, rfl⟩ (.cons ru .nil), ⟨_, hT2, rfl, _, rfl⟩⟩
    have I1 : Inv X pins σ (upd H s.heap.objs.size (.tup [.int (c + (i : Nat)), x])) { s with heap := h'', toks := tk + 1 } :=
      I.turnedNew (ch := [e, it]) (fun b ob hb q => (sb.2 b (fun z => hb (by simp [z]))).trans (hk b ob (fun z => hb (by simp [z])) (fun z => hb (by simp [z])) q)) hf (Nat.le_refl _) new
    refine ⟨.ref s.heap.objs.size, _, I1, rfl, ⟨_, x, rfl, I.hok.fresh (Nat.le_refl _), rfl, fun ys hy => by rw [I.list_inj hy hq]; exact hx⟩, ⟨⟨u, ?_⟩, hit'.1.at fun o q => (sb.2 it (Ne.symm hne)).trans q, hne⟩, fun b hb => ?_⟩
    · have e1 : c + ((i + 1 : Nat) : Int) = c + (i : Int) + 1 := by omega
      rw [e1]; exact he'
    · have hb' : b < s.heap.objs.size := by
        have e' : b = e ∨ b = it := by simpa using hb
        rcases e' with z | z
        · rw [z]; exact hel
        · rw [z]; exact hil
      rw [upd_ne (Nat.ne_of_lt hb')]
      exact (hf b hb).1
  done := by
    intro X hP hw hK hc i pins s σ H E I hf st hg
    subst hP hw hK
    obtain ⟨⟨old, he⟩, hit, hne⟩ := st
    obtain ⟨xs, hq, hx⟩ := hg
    obtain ⟨its, rv, p, hz⟩ := I.list hq
    obtain ⟨f0, f1, f2, f3, f4, f5⟩ := hf it (by simp)
    have hl := rv.length
    have hai : a ≠ it := fun q => by
      obtain ⟨o1, h1, c1, _⟩ := p.isList
      obtain ⟨o2, h2, c2, _⟩ := hit
      rw [q, h2] at h1
      cases h1
      rw [c2] at c1
      exact absurd c1 (by decide)
    have hsz : its.toArray.size = i := by rw [List.size_toArray, ← hl]; exact hx
    exact wpAny_pyNext_enum_endD (Draws.list (A := X.A.in1) (I.ok.hd hc) it a hai its.toArray) he (by rw [hsz]; exact ⟨hit, p.isList⟩) fun h' eb => ⟨rfl, I.turned (t' := s.toks) (fun b o hb q => eb b o hb q) f0 f1 f3 f4 f5⟩
  self := fun A i s Q E st h => let ⟨⟨_, he⟩, _⟩ := st; wpAny_pyIter_enum he h
def iEnumS (K : PySem.W.Frag) (ta tk : TA) : TI := fun σ H R => ta σ H fun vs H1 => tk σ H1 fun zs H2 => ∃ (a : Addr) (xs : List V) (c : Int), vs = [.ref a] ∧ zs = [.int c] ∧ SqL K H2 a xs ∧ -(2 ^ 63) ≤ c ∧ c < 2 ^ 63 ∧ R (Ites K a c) H2
theorem pi_enumS {X : Cx} {e : Expr} {ta tk : TA} {p pos tpos : Pos} {elts : List Expr} {kk : Nat} {kws : List Keyword} (hg : Gl X "enumerate") (hm : X.mg "enumerate" = none) (ha : PA X [e] ta) (hk : PK X kws tk)
    (hall : (backToKw pos (keywordEach kws X.env)).all (·.1.isSome) = true := by rfl) (hks : (backToKw pos (keywordEach kws X.env)).filterMap (·.1) = [Str.ofString "start"] := by rfl)
    (he : starEach [e] X.env = [(false, eval e X.env)] := by rfl) (hpl : ((backTo pos (starEach [e] X.env)).any (·.1) || (backToKw pos (keywordEach kws X.env)).any (·.1.isNone)) = false := by rfl) :
    PI X (.Tuple elts kk tpos) (.Call (.Name "enumerate" p) [e] kws pos) (iEnumS X.K ta tk) := by
  refine ⟨fun pins s σ H R I h => ?_⟩
  refine wpAny_Call_Name_kw (ld_blt I hg hm boot_enumerate ?_)
  refine PySem.W.callWith_of (P := fun _ => True) hpl (fun _ _ => ⟨.machine, .inr (.inl rfl), PySem.W.Looks.of_pure rfl⟩) (evalArgs_kw2 hall (thn (ha.run pos pins s σ H _ I h) fun us s1 ⟨vs, H1, I1, r1, q1⟩ => ?_) he)
  refine thn (hk.run pos pins s1 σ H1 _ I1 q1) fun ws s2 ⟨zs, H2, I2, r2, q2⟩ => ⟨trivial, ?_⟩
  obtain ⟨a, xs, c, rfl, rfl, hq, c0, c1, q⟩ := q2
  rw [hks]
  obtain ⟨u1, rfl, ru1⟩ := r1.one
  obtain ⟨u2, rfl, ru2⟩ := r2.one
  cases (show u1 = Value.ref a from ru1)
  obtain ⟨t, rfl⟩ := ru2
  obtain ⟨its, rv, p', hz⟩ := I2.list hq
  show wpAny _ _ (call (.type "enumerate") [.ref a] [(Str.ofString "start", .int c t)]) _ _ _
  refine enum_begins_start (begins_list a its.toArray) p'.isList c0 c1 fun h' he' hit hsz hk' => wpAny_pyIter_enum he' ?_
  have I3 : Inv X pins σ H2 { s2 with heap := h' } := I2.kept (t' := s2.toks) hk'
  refine ⟨s2.heap.objs.size + 1, [s2.heap.objs.size + 1, s2.heap.objs.size], _, _, H2, rfl, I3, turn_enumS c a (s2.heap.objs.size + 1) s2.heap.objs.size, ⟨⟨.none, ?_⟩, ⟨_, hit, rfl, rfl⟩, Nat.succ_ne_self _⟩, fun b hb => ?_, q⟩
  · have e0 : c + ((0 : Nat) : Int) = c := by omega
    rw [e0]; exact he'
  · have e' : b = s2.heap.objs.size + 1 ∨ b = s2.heap.objs.size := by simpa using hb
    have hle : s2.heap.objs.size ≤ b := by
      rcases e' with z | z
      · rw [z]; exact Nat.le_add_right _ _
      · rw [z]; exact Nat.le_refl _
    exact I2.fpOk hle (I2.hok.fresh hle)
theorem walk_enumS {K : PySem.W.Frag} {a : Addr} {xs : List V} {c : Int} : Walk (Ites K a c) xs.length (fun H => SqL K H a xs) (YPair (fun i => some (.int (c + (i : Nat)))) (fun i => xs[i]?)) := by
  refine ⟨fun i _ hi q => ⟨xs, xs[i], q, by simp [hi]⟩, fun _ q => ⟨xs, q, rfl⟩, fun i H v H' _ q y => ?_⟩
  obtain ⟨T, x, h1, h2, h3, h4⟩ := y
  exact ⟨T, .int (c + (i : Nat)), x, h1, h2, h3, rfl, h4 xs q⟩
section
variable {σ : L2.St} {H : Hp} {Q : VK} {te : TE} {ta tk : TA} {R : It → Hp → Prop} {P : Program} {w : World} {K : PySem.W.Frag} {to : TE}
theorem rd_ienumS (k : ta σ H fun vs H1 => tk σ H1 fun zs H2 => ∃ (a : Addr) (xs : List V) (c : Int), vs = [.ref a] ∧ zs = [.int c] ∧ SqL K H2 a xs ∧ -(2 ^ 63) ≤ c ∧ c < 2 ^ 63 ∧ R (Ites K a c) H2) : iEnumS K ta tk σ H R := k
theorem rd_set1 (k : te σ H fun x H1 => ∃ o : Option Str, x = ov o ∧ ∀ p, H1 p = none → Q (.ref p) (upd H1 p (SetN P w p [o]))) : tSet1 P w te σ H Q := k
theorem rd_saddN (k : to σ H fun x H1 => (∃ a l, x = V.ref a ∧ H1 a = some (SetN P w a l)) ∧ ta σ H1 fun xs H2 => rSAddN P w x xs H2 Q) : tSAddN P w to ta σ H Q := k
end
theorem pe_orT' {X : Cx} {K : PySem.W.Frag} {a b : Expr} {rest : List Expr} {pos : Pos} {ta tb : TE} (h : X.K = K) (ha : PE X a ta) (hb : PE X (.BoolOp .Or (b :: rest) pos) tb) : PE X (.BoolOp .Or (a :: b :: rest) pos) (tOrT K ta tb) := h ▸ pe_orT ha hb
end Nn

namespace Nn
open PySem PySem.Spec PyProof.Rows L2
def topS (i : Nat) : Stmt := PySem.Challenge.pw_newnames_k16_texts_refused.main.body.getD i (.Pass ⟨0, 0, 0, 0⟩)
-- _wall: 0:k
abbrev s_wall : Stmt := topS 0
abbrev N_wall : List Str := ["k"]
abbrev P_wall : List Str := ["k"]
theorem sc_wall : FnScope N_wall ["k"] (defScope s_wall) := ⟨rfl, rfl, rfl, by decide +kernel, rfl, by decide +kernel, by decide +kernel⟩
-- Twice.__init__: 0:self 1:name
abbrev sTwice___init__ : Stmt := inClass (topS 4) 0
abbrev NTwice___init__ : List Str := ["self", "name"]
abbrev PTwice___init__ : List Str := ["self", "name"]
-- Missing.__init__: 0:self 1:name
abbrev sMissing___init__ : Stmt := inClass (topS 5) 0
abbrev NMissing___init__ : List Str := ["self", "name"]
abbrev PMissing___init__ : List Str := ["self", "name"]
-- Held.__init__: 0:self 1:name
abbrev sHeld___init__ : Stmt := inClass (topS 6) 0
abbrev NHeld___init__ : List Str := ["self", "name"]
abbrev PHeld___init__ : List Str := ["self", "name"]
-- LetGo.__init__: 0:self 1:name
abbrev sLetGo___init__ : Stmt := inClass (topS 7) 0
abbrev NLetGo___init__ : List Str := ["self", "name"]
abbrev PLetGo___init__ : List Str := ["self", "name"]
-- NoSpare.__init__: 0:self 1:ring
abbrev sNoSpare___init__ : Stmt := inClass (topS 8) 0
abbrev NNoSpare___init__ : List Str := ["self", "ring"]
abbrev PNoSpare___init__ : List Str := ["self", "ring"]
-- NoRow.__init__: 0:self 1:row
abbrev sNoRow___init__ : Stmt := inClass (topS 9) 0
abbrev NNoRow___init__ : List Str := ["self", "row"]
abbrev PNoRow___init__ : List Str := ["self", "row"]
-- is_name: 0:thing 1:sign
abbrev sis_name : Stmt := topS 12
abbrev Nis_name : List Str := ["thing", "sign"]
abbrev Pis_name : List Str := ["thing"]
theorem scis_name : FnScope Nis_name ["thing"] (defScope sis_name) := ⟨rfl, rfl, rfl, by decide +kernel, rfl, by decide +kernel, by decide +kernel⟩
-- check_name: 0:thing
abbrev scheck_name : Stmt := topS 13
abbrev Ncheck_name : List Str := ["thing"]
abbrev Pcheck_name : List Str := ["thing"]
theorem sccheck_name : FnScope Ncheck_name ["thing"] (defScope scheck_name) := ⟨rfl, rfl, rfl, by decide +kernel, rfl, by decide +kernel, by decide +kernel⟩
-- Plan.__init__: 0:self 1:pairs 2:leads 3:taken 4:old 5:new
abbrev sPlan___init__ : Stmt := inClass (topS 14) 0
abbrev NPlan___init__ : List Str := ["self", "pairs", "leads", "taken", "old", "new"]
abbrev PPlan___init__ : List Str := ["self", "pairs"]
theorem scPlan___init__ : FnScope NPlan___init__ ["self", "pairs"] (defScope sPlan___init__) := ⟨rfl, rfl, rfl, by decide +kernel, rfl, by decide +kernel, by decide +kernel⟩
-- Plan.pairs: 0:self
abbrev sPlan_pairs : Stmt := inClass (topS 14) 1
abbrev NPlan_pairs : List Str := ["self"]
abbrev PPlan_pairs : List Str := ["self"]
theorem scPlan_pairs : FnScope NPlan_pairs ["self"] (defScope sPlan_pairs) := ⟨rfl, rfl, rfl, by decide +kernel, rfl, by decide +kernel, by decide +kernel⟩
-- Plan.olds: 0:self
abbrev sPlan_olds : Stmt := inClass (topS 14) 2
abbrev NPlan_olds : List Str := ["self"]
abbrev PPlan_olds : List Str := ["self"]
theorem scPlan_olds : FnScope NPlan_olds ["self"] (defScope sPlan_olds) := ⟨rfl, rfl, rfl, by decide +kernel, rfl, by decide +kernel, by decide +kernel⟩
-- Plan.news: 0:self 1:new
abbrev sPlan_news : Stmt := inClass (topS 14) 3
abbrev NPlan_news : List Str := ["self", "new"]
abbrev PPlan_news : List Str := ["self"]
theorem scPlan_news : FnScope NPlan_news ["self"] (defScope sPlan_news) := ⟨rfl, rfl, rfl, by decide +kernel, rfl, by decide +kernel, by decide +kernel⟩
-- Plan.to: 0:self 1:name
abbrev sPlan_to : Stmt := inClass (topS 14) 4
abbrev NPlan_to : List Str := ["self", "name"]
abbrev PPlan_to : List Str := ["self", "name"]
theorem scPlan_to : FnScope NPlan_to ["self", "name"] (defScope sPlan_to) := ⟨rfl, rfl, rfl, by decide +kernel, rfl, by decide +kernel, by decide +kernel⟩
-- Plan.rings: 0:self
abbrev sPlan_rings : Stmt := inClass (topS 14) 5
abbrev NPlan_rings : List Str := ["self"]
abbrev PPlan_rings : List Str := ["self"]
theorem scPlan_rings : FnScope NPlan_rings ["self"] (defScope sPlan_rings) := ⟨rfl, rfl, rfl, by decide +kernel, rfl, by decide +kernel, by decide +kernel⟩
-- read: 0:text 1:rows 2:rest 3:plan
abbrev sread : Stmt := topS 17
abbrev Nread : List Str := ["text", "rows", "rest", "plan"]
abbrev Pread : List Str := ["text"]
theorem scread : FnScope Nread ["text"] (defScope sread) := ⟨rfl, rfl, rfl, by decide +kernel, rfl, by decide +kernel, by decide +kernel⟩
-- plan_of: 0:rows 1:first 2:spare 3:pairs 4:olds 5:news 6:number 7:row 8:pair 9:old 10:new
abbrev splan_of : Stmt := topS 18
abbrev Nplan_of : List Str := ["rows", "first", "spare", "pairs", "olds", "news", "number", "row", "pair", "old", "new"]
abbrev Pplan_of : List Str := ["rows", "first", "spare"]
theorem scplan_of : FnScope Nplan_of ["rows", "first", "spare"] (defScope splan_of) := ⟨rfl, rfl, rfl, by decide +kernel, rfl, by decide +kernel, by decide +kernel⟩
-- _pair: 0:row 1:old 2:_ 3:new
abbrev s_pair : Stmt := topS 19
abbrev N_pair : List Str := ["row", "old", "_", "new"]
abbrev P_pair : List Str := ["row"]
theorem sc_pair : FnScope N_pair ["row"] (defScope s_pair) := ⟨rfl, rfl, rfl, by decide +kernel, rfl, by decide +kernel, by decide +kernel⟩
-- _law_state: 0:_law_cell 1:_law_k
abbrev s_law_state : Stmt := topS 21
abbrev N_law_state : List Str := ["_law_cell", "_law_k"]
abbrev P_law_state : List Str := ["_law_cell", "_law_k"]
theorem sc_law_state : FnScope N_law_state ["_law_cell", "_law_k"] (defScope s_law_state) := ⟨rfl, rfl, rfl, by decide +kernel, rfl, by decide +kernel, by decide +kernel⟩
-- _law_next: 0:_law_state_here 1:_law_size
abbrev s_law_next : Stmt := topS 22
abbrev N_law_next : List Str := ["_law_state_here", "_law_size"]
abbrev P_law_next : List Str := ["_law_state_here", "_law_size"]
theorem sc_law_next : FnScope N_law_next ["_law_state_here", "_law_size"] (defScope s_law_next) := ⟨rfl, rfl, rfl, by decide +kernel, rfl, by decide +kernel, by decide +kernel⟩
-- _law_pool: 0:_law_state_here 1:_law_letters 2:_law_base 3:_law_spot 4:_law_step 5:_law_k
abbrev s_law_pool : Stmt := topS 23
abbrev N_law_pool : List Str := ["_law_state_here", "_law_letters", "_law_base", "_law_spot", "_law_step", "_law_k"]
abbrev P_law_pool : List Str := ["_law_state_here"]
theorem sc_law_pool : FnScope N_law_pool ["_law_state_here"] (defScope s_law_pool) := ⟨rfl, rfl, rfl, by decide +kernel, rfl, by decide +kernel, by decide +kernel⟩
-- _law_turned: 0:_law_state_here 1:_law_things_here 2:_law_left 3:_law_found
abbrev s_law_turned : Stmt := topS 24
abbrev N_law_turned : List Str := ["_law_state_here", "_law_things_here", "_law_left", "_law_found"]
abbrev P_law_turned : List Str := ["_law_state_here", "_law_things_here"]
theorem sc_law_turned : FnScope N_law_turned ["_law_state_here", "_law_things_here"] (defScope s_law_turned) := ⟨rfl, rfl, rfl, by decide +kernel, rfl, by decide +kernel, by decide +kernel⟩
-- _law_thing: 0:_law_state_here 1:_law_far
abbrev s_law_thing : Stmt := topS 25
abbrev N_law_thing : List Str := ["_law_state_here", "_law_far"]
abbrev P_law_thing : List Str := ["_law_state_here"]
theorem sc_law_thing : FnScope N_law_thing ["_law_state_here"] (defScope s_law_thing) := ⟨rfl, rfl, rfl, by decide +kernel, rfl, by decide +kernel, by decide +kernel⟩
-- _law_things: 0:_law_state_here 1:_law_pool_here 2:_law_names 3:_law_name
abbrev s_law_things : Stmt := topS 26
abbrev N_law_things : List Str := ["_law_state_here", "_law_pool_here", "_law_names", "_law_name"]
abbrev P_law_things : List Str := ["_law_state_here", "_law_pool_here"]
theorem sc_law_things : FnScope N_law_things ["_law_state_here", "_law_pool_here"] (defScope s_law_things) := ⟨rfl, rfl, rfl, by decide +kernel, rfl, by decide +kernel, by decide +kernel⟩
-- _law_pairs: 0:_law_state_here 1:_law_pool_here 2:_law_things_here 3:_law_movers 4:_law_free 5:_law_some 6:_law_found 7:_law_name 8:_law_old 9:_law_new
abbrev s_law_pairs : Stmt := topS 27
abbrev N_law_pairs : List Str := ["_law_state_here", "_law_pool_here", "_law_things_here", "_law_movers", "_law_free", "_law_some", "_law_found", "_law_name", "_law_old", "_law_new"]
abbrev P_law_pairs : List Str := ["_law_state_here", "_law_pool_here", "_law_things_here"]
theorem sc_law_pairs : FnScope N_law_pairs ["_law_state_here", "_law_pool_here", "_law_things_here"] (defScope s_law_pairs) := ⟨rfl, rfl, rfl, by decide +kernel, rfl, by decide +kernel, by decide +kernel⟩
-- _law_by_olds: 0:_law_pairs_here 1:_law_news 2:_law_old
abbrev s_law_by_olds : Stmt := topS 28
abbrev N_law_by_olds : List Str := ["_law_pairs_here", "_law_news", "_law_old"]
abbrev P_law_by_olds : List Str := ["_law_pairs_here"]
theorem sc_law_by_olds : FnScope N_law_by_olds ["_law_pairs_here"] (defScope s_law_by_olds) := ⟨rfl, rfl, rfl, by decide +kernel, rfl, by decide +kernel, by decide +kernel⟩
-- _law_word_of: 0:_law_error 1:_law_marks 2:_law_words 3:_law_word
abbrev s_law_word_of : Stmt := topS 29
abbrev N_law_word_of : List Str := ["_law_error", "_law_marks", "_law_words", "_law_word"]
abbrev P_law_word_of : List Str := ["_law_error"]
theorem sc_law_word_of : FnScope N_law_word_of ["_law_error"] (defScope s_law_word_of) := ⟨rfl, rfl, rfl, by decide +kernel, rfl, by decide +kernel, by decide +kernel⟩
-- _law_is_name: 0:_law_word 1:_law_sign
abbrev s_law_is_name : Stmt := topS 30
abbrev N_law_is_name : List Str := ["_law_word", "_law_sign"]
abbrev P_law_is_name : List Str := ["_law_word"]
theorem sc_law_is_name : FnScope N_law_is_name ["_law_word"] (defScope s_law_is_name) := ⟨rfl, rfl, rfl, by decide +kernel, rfl, by decide +kernel, by decide +kernel⟩
-- _law_due: 0:_law_text 1:_law_rows 2:_law_pairs_here 3:_law_at 4:_law_words 5:_law_new 6:_law_one
abbrev s_law_due : Stmt := topS 31
abbrev N_law_due : List Str := ["_law_text", "_law_rows", "_law_pairs_here", "_law_at", "_law_words", "_law_new", "_law_one"]
abbrev P_law_due : List Str := ["_law_text"]
theorem sc_law_due : FnScope N_law_due ["_law_text"] (defScope s_law_due) := ⟨rfl, rfl, rfl, by decide +kernel, rfl, by decide +kernel, by decide +kernel⟩
-- _law_told: 0:_law_text 1:_law_found 2:_law_word 3:e
abbrev s_law_told : Stmt := topS 32
abbrev N_law_told : List Str := ["_law_text", "_law_found", "_law_word", "e"]
abbrev P_law_told : List Str := ["_law_text"]
theorem sc_law_told : FnScope N_law_told ["_law_text"] (defScope s_law_told) := ⟨rfl, rfl, rfl, by decide +kernel, rfl, by decide +kernel, by decide +kernel⟩
-- _law_spoilt: 0:_law_state_here 1:_law_text 2:_law_pool_here 3:_law_rows 4:_law_at 5:_law_one 6:_law_other 7:_law_some 8:_law_row 9:_law_spot 10:_law_sign 11:_law_sort
abbrev s_law_spoilt : Stmt := topS 33
abbrev N_law_spoilt : List Str := ["_law_state_here", "_law_text", "_law_pool_here", "_law_rows", "_law_at", "_law_one", "_law_other", "_law_some", "_law_row", "_law_spot", "_law_sign", "_law_sort"]
abbrev P_law_spoilt : List Str := ["_law_state_here", "_law_text", "_law_pool_here"]
theorem sc_law_spoilt : FnScope N_law_spoilt ["_law_state_here", "_law_text", "_law_pool_here"] (defScope s_law_spoilt) := ⟨rfl, rfl, rfl, by decide +kernel, rfl, by decide +kernel, by decide +kernel⟩
-- law: 0:_law_script 1:_law_k 2:_law_cell 3:_law_state_here 4:_law_pool_here 5:_law_pairs_here 6:_law_text 7:_law_bent 8:_law_old 9:_law_new
abbrev slaw : Stmt := topS 34
abbrev Nlaw : List Str := ["_law_script", "_law_k", "_law_cell", "_law_state_here", "_law_pool_here", "_law_pairs_here", "_law_text", "_law_bent", "_law_old", "_law_new"]
abbrev Plaw : List Str := ["_law_script"]
theorem sclaw : FnScope Nlaw ["_law_script"] (defScope slaw) := ⟨rfl, rfl, rfl, by decide +kernel, rfl, by decide +kernel, by decide +kernel⟩
end Nn

namespace Nn
open PySem PySem.Spec PyProof.Rows L2
local macro_rules | `(tactic| walk_at "rd1") => `(tactic| first
  | with_reducible refine' rd_c ?_
  | ((with_reducible refine' rd_var ?h ?_); (case h => rfl))
  | with_reducible refine' rd_op ?_
  | with_reducible refine' rd_I0 ?_
  | with_reducible refine' rd_seq ?_
  | ((with_reducible refine' rd_mod ?h ?_); (case h => decide))
  | ((with_reducible refine' rd_fdiv ?h ?_); (case h => exact ⟨by decide, by decide⟩))
  | ((with_reducible refine' rd_pow ?h ?_); (case h => exact ⟨by decide, by decide, by decide⟩))
  | ((with_reducible refine' rd_mul ?h ?_); (case h => first | exact Or.inl (by decide) | exact Or.inr (by decide)))
  | with_reducible refine' rd_set ?_
  | with_reducible refine' rd_asg ?_
  | with_reducible refine' rd_cons ?_
  | with_reducible refine' rd_nil ?_
  | with_reducible refine' rd_call ?_
  | with_reducible refine' rd_cb ?_
  | with_reducible refine' rd_if ?_
  | with_reducible refine' rd_test ?_
  | with_reducible refine' rd_B ?_
  | with_reducible refine' rd_bl ?_
  | ((with_reducible refine' rd_eq ?h ?_); (case h => rfl))
  | ((with_reducible refine' rd_ne ?h ?_); (case h => rfl))
  | with_reducible refine' rd_not ?_
  | with_reducible refine' rd_and ?_
  | with_reducible refine' rd_or ?_
  | with_reducible refine' rd_notV ?_
  | with_reducible refine' rd_chain ?_
  | with_reducible refine' rd_ret ?_
  | with_reducible refine' rd_drop ?_
  | with_reducible refine' rd_next' ?_
  | with_reducible refine' rd_lst ?_
  | with_reducible refine' rd_tup ?_
  | with_reducible refine' rd_lc ?_
  | with_reducible refine' rd_rng1 ?_
  | with_reducible refine' rd_istr ?_
  | with_reducible refine' rd_ilst ?_
  | with_reducible refine' rd_ienum ?_
  | with_reducible refine' rd_bm0 ?_
  | with_reducible refine' rd_bm ?_
  | with_reducible refine' rd_m1 ?_
  | with_reducible refine' rd_sl ?_
  | with_reducible refine' rd_po0 ?_
  | with_reducible refine' rd_po1 ?_
  | with_reducible refine' rd_in ?_
  | with_reducible refine' rd_sub ?_
  | with_reducible refine' rd_ifE ?_
  | with_reducible refine' rd_un ?_
  | with_reducible refine' rd_U ?_
  | with_reducible refine' rd_brk ?_
  | with_reducible refine' rd_cont ?_
  | with_reducible refine' rd_yes ?_
  | with_reducible refine' rd_T ?_
  | with_reducible refine' rd_F ?_
  | with_reducible refine' rd_nT ?_
  | with_reducible refine' rd_nF ?_
  | with_reducible refine' rd_dni ?_
  | with_reducible refine' rd_di ?_
  | with_reducible refine' rd_dget ?_
  | with_reducible refine' rd_dget1 ?_
  | with_reducible refine' rd_dget2 ?_
  | with_reducible refine' rd_dget2N ?_
  | with_reducible refine' rd_dpop1 ?_
  | with_reducible refine' rd_ddel ?_
  | with_reducible refine' rd_mkN ?_
  | with_reducible refine' rd_mkV ?_
  | with_reducible refine' rd_dput ?_
  | with_reducible refine' rd_dnew ?_
  | with_reducible refine' rd_ikeys ?_
  | with_reducible refine' rd_gn ?_
  | with_reducible refine' rd_for ?_
  | with_reducible refine' rd_make ?_
  | with_reducible refine' rd_meth ?_
  | with_reducible refine' rd_fld ?_
  | with_reducible refine' rd_sfld ?_
  | with_reducible refine' rd_dc ?_
  | with_reducible refine' rd_items ?_
  | with_reducible refine' rd_sadd ?_
  | with_reducible refine' rd_ivals ?_
  | with_reducible refine' rd_callS ?_
  | with_reducible refine' rd_makeS ?_
  | with_reducible refine' rd_methS ?_
  | with_reducible refine' rd_fldH ?_
  | with_reducible refine' rd_mkO ?_)
local macro_rules | `(tactic| walk_at "sub") => `(tactic| repeat' (first | exact List.nil_sublist _ | exact List.Sublist.refl _ | apply List.Sublist.cons₂ | apply List.Sublist.cons))
local macro_rules | `(tactic| walk_at "rd") => `(tactic| repeat walk_at "rd1")

section
variable {P : Program} {w : World} {K : PySem.W.Frag} {mg : Str → Option Value} {base : Heap}
/-! ### the state -/
def Sd (s : Int) : Prop := 0 ≤ s ∧ s < 2147483647
def spState : Sp := fun vs H Q _ => ∃ (c k : Int), vs = [.int c, .int k] ∧ ∀ s p H', Sd s → H p = none → H' p = some (.lst [.int s]) → Kp [] H H' → Q (.ref p) H'
theorem ok__law_state {f : Addr} {fd : FuncData} (F : Fun K "_law_state" "_law_state" s_law_state f fd) : FnOk P w K mg base CX0 1 f fd ["_law_cell", "_law_k"] spState := by
  refine F.ok sc_law_state (fun vs H Q E h => by obtain ⟨c, k, rfl, _⟩ := h; rfl) (fun cdv A outer s H vs Q E hr h => ?_)
  obtain ⟨c, k, rfl, q⟩ := h
  refine ⟨_, pss_one (ps_ret (pe_lst (pa_cons (pe_op op_add pe_int (pe_op op_mod (pe_op op_add (pv 0) (pe_op op_mul pe_int (pv 1))) pe_int)) pa_nil))), ?_⟩
  walk_at "rd"
  refine ⟨szl rfl, fun p hp => q _ p _ ?_ hp upd_same (fun a o e _ => by rw [upd_ne (ne_of_none e hp)]; exact e)⟩
  have h1 := Int.emod_nonneg (c + 104729 * k) (b := 2147483645) (by decide)
  have h2 := Int.emod_lt_of_pos (c + 104729 * k) (b := 2147483645) (by decide)
  exact ⟨by omega, by omega⟩
def spNext : Sp := fun vs H Q _ => ∃ (S : Addr) (s n : Int), vs = [.ref S, .int n] ∧ H S = some (.lst [.int s]) ∧ Sd s ∧ 0 < n ∧ ∀ s' r H', Sd s' → 0 ≤ r → r < n → Kp [S] H H' → H' S = some (.lst [.int s']) → Q (.int r) H'
theorem ok__law_next {f : Addr} {fd : FuncData} (F : Fun K "_law_next" "_law_next" s_law_next f fd) : FnOk P w K mg base CX0 1 f fd ["_law_state_here", "_law_size"] spNext := by
  refine F.ok sc_law_next (fun vs H Q E h => by obtain ⟨S, s, n, rfl, _⟩ := h; rfl) (fun cdv A outer s0 H vs Q E hr h => ?_)
  obtain ⟨S, s, n, rfl, hS, hs, hn, q⟩ := h
  refine ⟨_, pss_cons (ps_asg (pe_op op_mod (pe_op op_mul (pe_ix ix_list (pv 0) pe_int (fun _ _ => rfl)) pe_int) pe_int) (pg_sub (pv 0) pe_int set_list))
  (pss_one (ps_ret (pe_op op_mod (pe_op op_fdiv (pe_op op_mod (pe_op op_add (pe_op op_mul (pe_ix ix_list (pv 0) pe_int (fun _ _ => rfl)) (pe_ix ix_list (pv 0) pe_int (fun _ _ => rfl))) (pe_op op_mul pe_int (pe_ix ix_list (pv 0) pe_int (fun _ _ => rfl)))) pe_int) pe_int) (pv 1)))), ?_⟩
  have A := At.one hS
  walk_at "rd"
  refine rd_ixL (A.lst 0 rfl) (by rfl) ?_
  walk_at "rd"
  have h1 := Int.emod_nonneg (s * 48271) (b := 2147483647) (by decide)
  have h2 := Int.emod_lt_of_pos (s * 48271) (b := 2147483647) (by decide)
  refine rd_setL A 0 rfl (by rfl) fun H1 A1 => ?_
  generalize s * 48271 % 2147483647 = t at *
  walk_at "rd"
  refine rd_ixL (A1.lst 0 rfl) (by rfl) ?_
  walk_at "rd"
  refine rd_ixL (A1.lst 0 rfl) (by rfl) ?_
  walk_at "rd"
  refine rd_mul (Or.inl ⟨by omega, by omega⟩) ?_
  walk_at "rd"
  refine rd_ixL (A1.lst 0 rfl) (by rfl) ?_
  walk_at "rd"
  refine rd_mod hn ?_
  exact q t _ H1 ⟨h1, h2⟩ (Int.emod_nonneg _ (by omega)) (Int.emod_lt_of_pos _ hn) A1.keep (A1.get 0 rfl)
/-! ### is_name -/
def signOk (c : Nat) : Bool := decide (97 ≤ c) && decide (c ≤ 122)
def nameOk (z : Str) : Bool := decide (1 ≤ z.length ∧ z.length ≤ 8) && z.cps.toList.all signOk
theorem lt1 (a b : Nat) : ([a] < [b]) ↔ a < b := by
  constructor
  · intro h
    rcases List.cons_lt_cons_iff.mp h with h | ⟨_, h⟩
    · exact h
    · exact absurd h (by simp)
  · intro h
    exact List.cons_lt_cons_iff.mpr (.inl h)
theorem cps_a : ("a" : Str).cps.toList = [97] := by decide +kernel
theorem cps_z : ("z" : Str).cps.toList = [122] := by decide +kernel
def spIsName (K : PySem.W.Frag) : Sp := fun vs H Q _ => ∃ x t b, vs = [x] ∧ TyX K H x t ∧ PySem.W.kitOne K t (.type "str") = some b ∧
  (b = true → ∃ z : Str, x = .str z ∧ z.length ≤ 1000 ∧ ∀ H', Kp [] H H' → Q (.bl (nameOk z)) H') ∧ (b = false → ∀ H', Kp [] H H' → Q (.bl false) H')
theorem ok_is_name {f : Addr} {fd : FuncData} (F : Fun K "is_name" "is_name" sis_name f fd) (B : Blt mg) (g_LONGEST : ∃ tk, mg "LONGEST" = some (.int 8 tk)) : FnOk P w K mg base CX0 1 f fd ["thing"] (spIsName K) := by
  refine F.ok scis_name (fun vs H Q E h => by obtain ⟨x, t, b, rfl, _⟩ := h; rfl) (fun cdv A outer s0 H vs Q E hr h => ?_)
  obtain ⟨x, t, b, rfl, ty, kit, k1, k2⟩ := h
  refine ⟨_, pss_cons (ps_if (PW.pt (pw_or (pt_not (pt_val (pe_callB call_isi (by rfl) B.isinstance (by decide +kernel) (pa_cons (pv 0) (pa_cons (pe_ty (T := "str") (by rfl) B.str (by decide +kernel)) pa_nil))))) (pw_or1 (pt_not (pt_chain op_le op_le pe_int (pe_callB call_len_str (by rfl) B.len (by decide +kernel) (pa_cons (pv 0) pa_nil)) (pe_gint (by rfl) g_LONGEST)))))) (pss_one (ps_ret pe_bl))
   (pss_nil))
  (pss_one (ps_ret (pe_callB (cr_all rfl) (by rfl) B.all (by decide +kernel) (pa_cons (pe_lc (own := [("sign", 1)]) rfl scis_name.nd (pi_str (pv 0)) (blkOk_by (N := Nis_name) (sc := defScope sis_name) (by decide +kernel)) (fun _ _ _ _ _ => (pg_name (i := 1) scis_name.nd rfl (Or.inl rfl))) (fun _ _ _ _ _ => pts_nil) (fun _ _ _ _ _ => (pe_chain op_le_str op_le_str pe_str (pv 1) pe_str))) pa_nil)))), ?_⟩
  have A := At.nil H
  walk_at "rd"
  refine ⟨x, .ty "str", t, .type "str", b, rfl, .ty "str", ty, kit, rd_bl ?_⟩
  cases b with
  | false =>
    walk_at "rd"
    exact k2 rfl H (Kp.refl H)
  | true =>
    obtain ⟨z, rfl, hz, q⟩ := k1 rfl
    walk_at "rd"
    refine ⟨z, rfl, szn (by omega), ?_⟩
    walk_at "rd"
    refine rd_ite (fun h1 => ?_) (fun h1 => ?_)
    · walk_at "rd"
      refine rd_iteN (fun h2 => ?_) (fun h2 => ?_)
      · walk_at "rd"
        have e : nameOk z = false := by
          unfold nameOk
          rw [decide_eq_false (by omega)]
          rfl
        have := q H (Kp.refl H)
        rw [e] at this
        exact this
      · walk_at "rd"
        refine ⟨z, rfl, fun D hD => ?_⟩
        refine lc_it walk_str (fun i H' => At [] H H' [(D, .lst ((z.cps.toList.take i).map fun c => V.bl (signOk c)))] []) (A.snoc hD _) (fun _ _ _ _ => trivial) ?_ ?_
        · rintro i x H1 H2 hi A1 ⟨rfl, c, hc, rfl⟩
          refine ⟨rfl, ?_⟩
          walk_at "rd"
          refine ⟨_, _, rfl, rfl, rd_bl ?_⟩
          have e1 : (!decide ((⟨#[c]⟩ : Str).cps.toList < ("a" : Str).cps.toList)) = decide (97 ≤ c) := by
            rw [cps_a, show (⟨#[c]⟩ : Str).cps.toList = [c] from rfl, ← decide_not]
            exact decide_eq_decide.mpr (by rw [lt1]; omega)
          have e2 : (!decide (("z" : Str).cps.toList < (⟨#[c]⟩ : Str).cps.toList)) = decide (c ≤ 122) := by
            rw [cps_z, show (⟨#[c]⟩ : Str).cps.toList = [c] from rfl, ← decide_not]
            exact decide_eq_decide.mpr (by rw [lt1]; omega)
          have hcl : z.cps.toList[i]? = some c := by rw [Array.getElem?_toList]; exact hc
          have et : ((z.cps.toList.take (i + 1)).map fun c => V.bl (signOk c)) = ((z.cps.toList.take i).map fun c => V.bl (signOk c)) ++ [.bl (signOk c)] := by
            rw [List.take_add_one, hcl, List.map_append]; rfl
          have hl : ((z.cps.toList.take i).map fun c => V.bl (signOk c)).length < sizeLine := by
            rw [List.length_map, List.length_take]
            refine szn' ?_
            have : z.cps.toList.length ≤ 1000 := by rw [Array.length_toList]; exact hz
            omega
          rw [e1]
          refine rd_ite (fun h3 => ?_) (fun h3 => ?_)
          · walk_at "rd"
            refine ⟨_, _, rfl, rfl, ?_⟩
            rw [e2]
            refine ⟨_, A1.get 0 rfl, hl, ?_⟩
            have e3 : signOk c = decide (c ≤ 122) := by unfold signOk; rw [decide_eq_true h3, Bool.true_and]
            rw [et, e3]
            exact A1.set 0 rfl _
          · refine ⟨_, A1.get 0 rfl, hl, ?_⟩
            have e3 : signOk c = false := by unfold signOk; rw [decide_eq_false h3, Bool.false_and]
            rw [et, e3]
            exact A1.set 0 rfl _
        · intro H1 A1
          walk_at "rd"
          refine ⟨D, z.cps.toList.map signOk, rfl, ?_, ?_⟩
          · have := A1.lst (K := K) 0 rfl
            rw [show z.cps.size = z.cps.toList.length from (Array.length_toList).symm, List.take_length] at this
            rw [List.map_map]
            exact this
          · have e : nameOk z = (z.cps.toList.map signOk).all id := by
              unfold nameOk
              rw [decide_eq_true (by omega), Bool.true_and, List.all_map]
              rfl
            rw [← e]
            exact q H1 A1.keep
    · walk_at "rd"
      have e : nameOk z = false := by
        unfold nameOk
        rw [decide_eq_false (by omega)]
        rfl
      have := q H (Kp.refl H)
      rw [e] at this
      exact this
section
variable {M : List Addr} {H0 H : Hp} {L T : List (Addr × HO)} {S : Addr} {s n : Int} {Q : VK} {E : XK}
theorem rd_state (A : At M H0 H L T) {c k : Int} (q : ∀ s p H', Sd s → At M H0 H' (L ++ [(p, .lst [.int s])]) T → Q (.ref p) H') : spState [.int c, .int k] H Q E :=
  ⟨c, k, rfl, fun s p H' hs hn hp kp => q s p H' hs (A.add (A.c0 kp) rfl hn hp)⟩
theorem rd_next (A : At M H0 H L T) (i : Nat) (h : L[i]? = some (S, .lst [.int s])) (hs : Sd s) (hn : 0 < n) (q : ∀ s' r H', Sd s' → 0 ≤ r → r < n → At M H0 H' (L.set i (S, .lst [.int s'])) T → Q (.int r) H') : spNext [.ref S, .int n] H Q E :=
  ⟨S, s, n, rfl, A.in h, hs, hn, fun s' r H' a b c k e => q s' r H' a b c (A.c1 i h k e)⟩
theorem rd_name (A : At M H0 H L T) {z : Str} (hz : z.length ≤ 1000) (q : ∀ H', At M H0 H' L T → Q (.bl (nameOk z)) H') : spIsName K [.str z] H Q E :=
  ⟨.str z, .type "str", true, rfl, .base (.str z), kit_ty (by decide +kernel), fun _ => ⟨z, rfl, hz, fun H' k => q H' (A.c0 k)⟩, fun e => by cases e⟩
theorem rd_noname (A : At M H0 H L T) {x : V} {t : String} (ty : TyX K H x (.type t)) (kit : kitB t "str" = some false) (q : ∀ H', At M H0 H' L T → Q (.bl false) H') : spIsName K [x] H Q E :=
  ⟨x, .type t, false, rfl, ty, kit_ty kit, (fun e => by cases e), fun _ H' k => q H' (A.c0 k)⟩
end
theorem dp_strs {K : PySem.W.Frag} {H : Hp} : ∀ zs : List Str, DpAll K H (zs.map V.str) (zs.map PyData.str)
  | [] => .nil
  | z :: zs => .cons (.str z) (dp_strs zs)
theorem depth_strs : ∀ zs : List Str, PyData.depthAll (zs.map PyData.str) = 0
  | [] => rfl
  | z :: zs => by
    show max (PyData.depth (.str z)) (PyData.depthAll (zs.map PyData.str)) = 0
    rw [depth_strs zs]; rfl
theorem lay_strs : ∀ zs : List Str, (∀ z ∈ zs, PyData.strOk z = true) → PyData.canLayAll0 (zs.map PyData.str) = true
  | [], _ => rfl
  | z :: zs, h => by
    show (PyData.canLay0 (.str z) && PyData.canLayAll0 (zs.map PyData.str)) = true
    rw [lay_strs zs (fun y hy => h y (List.mem_cons_of_mem _ hy))]
    show (PyData.strOk z && true) = true
    rw [h z List.mem_cons_self]; rfl
theorem shaped_strs {zs : List Str} (h : ∀ z ∈ zs, PyData.strOk z = true) : SeqAt.shaped (.list (zs.map PyData.str)) = true := by
  unfold SeqAt.shaped
  rw [show PyData.canLay0 (.list (zs.map PyData.str)) = PyData.canLayAll0 (zs.map PyData.str) from rfl, lay_strs zs h]
  rw [show PyData.depth (.list (zs.map PyData.str)) = PyData.depthAll (zs.map PyData.str) + 1 from rfl, depth_strs]
  rfl
/-- the list of one-sign texts -/
def sg (l : List Nat) : List V := l.map fun c => V.str ⟨#[c]⟩
def sgs (l : List Nat) : List Str := l.map fun c => (⟨#[c]⟩ : Str)
theorem sg_sgs (l : List Nat) : sg l = (sgs l).map V.str := by unfold sg sgs; rw [List.map_map]; rfl
theorem sg_len (l : List Nat) : (sg l).length = l.length := by unfold sg; rw [List.length_map]
theorem join_sg : ∀ l : List Nat, TL.joinL [] (l.map fun c => [c]) = l
  | [] => rfl
  | [c] => rfl
  | c :: d :: r => by
    show [c] ++ ([] ++ TL.joinL [] ((d :: r).map fun c => [c])) = c :: d :: r
    rw [join_sg (d :: r)]; rfl
theorem str_nil : ("" : Str) = SX.S [] := by decide +kernel
theorem join_sgs (l : List Nat) : Txt.join "" (sgs l) = SX.S l := by
  have e : sgs l = (l.map fun c => [c]).map SX.S := by unfold sgs; rw [List.map_map]; rfl
  rw [str_nil, e, SX.join_S, join_sg]
theorem eqv_nil (l : List Nat) : PyData.eqv (.list ((sgs l).map PyData.str)) (.list []) = decide (l = []) := by
  cases l with
  | nil => rfl
  | cons c r => rfl
theorem sgs_ok {l : List Nat} (h : ∀ c ∈ l, c < 1000) : ∀ z ∈ sgs l, PyData.strOk z = true := by
  intro z hz
  obtain ⟨c, hc, rfl⟩ := List.mem_map.mp hz
  have := h c hc
  show (#[c] : Array Nat).all (· < 0x110000) = true
  simp
  omega
theorem sgs_size (l : List Nat) : ((sgs l).map (·.length)).sum + (sgs l).length * ("" : Str).length = l.length := by
  unfold sgs
  rw [List.map_map, List.length_map, show ("" : Str).length = 0 by decide +kernel, Nat.mul_zero, Nat.add_zero]
  induction l with
  | nil => rfl
  | cons c r ih => rw [List.map_cons, List.sum_cons, ih, List.length_cons]; show 1 + _ = _; omega
def letters : Str := "abcdefghijklmnopqrstuvwxyz"
def odd : Str := "AZ09 .-_\n\t'{@`"
theorem letters_ok : ∀ c ∈ letters.cps.toList, signOk c = true ∧ c < 1000 := by decide +kernel
theorem odd_ok : ∀ c ∈ odd.cps.toList, signOk c = false ∧ c < 1000 := by decide +kernel
theorem letters_len : letters.cps.toList.length = 26 := by decide +kernel
theorem odd_len : odd.cps.toList.length = 14 := by decide +kernel
theorem nameOk_S (l : List Nat) : nameOk (SX.S l) = (decide (1 ≤ l.length ∧ l.length ≤ 8) && l.all signOk) := by
  unfold nameOk
  rw [SX.S_len]
end
end Nn

namespace Nn
open PySem PySem.Spec PyProof.Rows L2
local macro_rules | `(tactic| walk_at "rd1") => `(tactic| first
  | with_reducible refine' rd_c ?_
  | ((with_reducible refine' rd_var ?h ?_); (case h => rfl))
  | with_reducible refine' rd_op ?_
  | with_reducible refine' rd_I0 ?_
  | with_reducible refine' rd_seq ?_
  | ((with_reducible refine' rd_mod ?h ?_); (case h => decide))
  | ((with_reducible refine' rd_fdiv ?h ?_); (case h => exact ⟨by decide, by decide⟩))
  | ((with_reducible refine' rd_pow ?h ?_); (case h => exact ⟨by decide, by decide, by decide⟩))
  | ((with_reducible refine' rd_mul ?h ?_); (case h => first | exact Or.inl (by decide) | exact Or.inr (by decide)))
  | with_reducible refine' rd_set ?_
  | with_reducible refine' rd_asg ?_
  | with_reducible refine' rd_cons ?_
  | with_reducible refine' rd_nil ?_
  | with_reducible refine' rd_call ?_
  | with_reducible refine' rd_cb ?_
  | with_reducible refine' rd_if ?_
  | with_reducible refine' rd_test ?_
  | with_reducible refine' rd_B ?_
  | with_reducible refine' rd_bl ?_
  | ((with_reducible refine' rd_eq ?h ?_); (case h => rfl))
  | ((with_reducible refine' rd_ne ?h ?_); (case h => rfl))
  | with_reducible refine' rd_not ?_
  | with_reducible refine' rd_and ?_
  | with_reducible refine' rd_or ?_
  | with_reducible refine' rd_notV ?_
  | with_reducible refine' rd_chain ?_
  | with_reducible refine' rd_ret ?_
  | with_reducible refine' rd_drop ?_
  | with_reducible refine' rd_next' ?_
  | with_reducible refine' rd_lst ?_
  | with_reducible refine' rd_tup ?_
  | with_reducible refine' rd_lc ?_
  | with_reducible refine' rd_rng1 ?_
  | with_reducible refine' rd_istr ?_
  | with_reducible refine' rd_ilst ?_
  | with_reducible refine' rd_ienum ?_
  | with_reducible refine' rd_bm0 ?_
  | with_reducible refine' rd_bm ?_
  | with_reducible refine' rd_m1 ?_
  | with_reducible refine' rd_sl ?_
  | with_reducible refine' rd_po0 ?_
  | with_reducible refine' rd_po1 ?_
  | with_reducible refine' rd_in ?_
  | with_reducible refine' rd_sub ?_
  | with_reducible refine' rd_ifE ?_
  | with_reducible refine' rd_un ?_
  | with_reducible refine' rd_U ?_
  | with_reducible refine' rd_brk ?_
  | with_reducible refine' rd_cont ?_
  | with_reducible refine' rd_yes ?_
  | with_reducible refine' rd_T ?_
  | with_reducible refine' rd_F ?_
  | with_reducible refine' rd_nT ?_
  | with_reducible refine' rd_nF ?_
  | with_reducible refine' rd_dni ?_
  | with_reducible refine' rd_di ?_
  | with_reducible refine' rd_dget ?_
  | with_reducible refine' rd_dget1 ?_
  | with_reducible refine' rd_dget2 ?_
  | with_reducible refine' rd_dget2N ?_
  | with_reducible refine' rd_dpop1 ?_
  | with_reducible refine' rd_ddel ?_
  | with_reducible refine' rd_mkN ?_
  | with_reducible refine' rd_mkV ?_
  | with_reducible refine' rd_dput ?_
  | with_reducible refine' rd_dnew ?_
  | with_reducible refine' rd_ikeys ?_
  | with_reducible refine' rd_gn ?_
  | with_reducible refine' rd_for ?_
  | with_reducible refine' rd_make ?_
  | with_reducible refine' rd_meth ?_
  | with_reducible refine' rd_fld ?_
  | with_reducible refine' rd_sfld ?_
  | with_reducible refine' rd_dc ?_
  | with_reducible refine' rd_items ?_
  | with_reducible refine' rd_sadd ?_
  | with_reducible refine' rd_ivals ?_
  | with_reducible refine' rd_callS ?_
  | with_reducible refine' rd_makeS ?_
  | with_reducible refine' rd_methS ?_
  | with_reducible refine' rd_fldH ?_
  | with_reducible refine' rd_mkO ?_)
local macro_rules | `(tactic| walk_at "sub") => `(tactic| repeat' (first | exact List.nil_sublist _ | exact List.Sublist.refl _ | apply List.Sublist.cons₂ | apply List.Sublist.cons))
local macro_rules | `(tactic| walk_at "rd") => `(tactic| repeat walk_at "rd1")

/-! ### the word of an error -/
def ErrCs.at (Cs : ErrCs) : Nat → Addr
  | 0 => Cs.name
  | 1 => Cs.twice
  | 2 => Cs.missing
  | 3 => Cs.held
  | 4 => Cs.letgo
  | 5 => Cs.spare
  | _ => Cs.row
def Flt.ix : Flt → Nat
  | .name => 0
  | .twice _ => 1
  | .missing _ => 2
  | .held _ => 3
  | .letgo _ => 4
  | .spare _ => 5
  | .row _ => 6
def Flt.word : Flt → Str
  | .name => "name"
  | .twice _ => "twice"
  | .missing _ => "missing"
  | .held _ => "held"
  | .letgo _ => "letgo"
  | .spare _ => "spare"
  | .row _ => "row"
def Flt.fld : Flt → PyData
  | .name => .none
  | .twice z => .str z
  | .missing z => .str z
  | .held z => .str z
  | .letgo z => .str z
  | .spare zs => .tuple (zs.map .str)
  | .row n => .int n
def Flt.d (x : Flt) : PyData := .tuple [.str x.word, x.fld]
theorem Flt.at_ix (Cs : ErrCs) (x : Flt) : Cs.at x.ix = x.cls Cs := by cases x <;> rfl
theorem Flt.ix_lt (x : Flt) : x.ix < 7 := by cases x <;> simp [Flt.ix]
/-- what the written part says of the seven classes -/
structure ErrK (K : PySem.W.Frag) (Cs : ErrCs) : Prop where
  exc : ∀ i, i < 7 → ExcC K (Cs.at i)
  kit : ∀ i j, i < 7 → j < 7 → PySem.W.kitOne K (.ref (Cs.at i)) (.ref (Cs.at j)) = some (decide (i = j))
  ve : ∀ i, i < 7 → PySem.W.kitOne K (.ref (Cs.at i)) (.type "ValueError") = some true
  nT : PySem.W.findIn K (.ref Cs.twice) "name" = some none
  nM : PySem.W.findIn K (.ref Cs.missing) "name" = some none
  nH : PySem.W.findIn K (.ref Cs.held) "name" = some none
  nL : PySem.W.findIn K (.ref Cs.letgo) "name" = some none
  nS : PySem.W.findIn K (.ref Cs.spare) "ring" = some none
  nR : PySem.W.findIn K (.ref Cs.row) "row" = some none
/-- the clause that catches them all -/
structure ErrN (K : PySem.W.Frag) (mg : Str → Option Value) (Cs : ErrCs) (CN : Addr) : Prop where
  ex : ∀ i, i < 7 → PySem.W.exmOne K (.ref (Cs.at i)) (.ref CN) = some true
  g : mg "NewError" = some (.ref CN)
theorem ErrN.of {K : PySem.W.Frag} {mg : Str → Option Value} {Cs : ErrCs} {CN : Addr} (h : ErrN K mg Cs CN) (x : Flt) : PySem.W.exmOne K (.ref (x.cls Cs)) (.ref CN) = some true := by rw [← x.at_ix]; exact h.ex _ x.ix_lt
theorem ErrAt.kp {H H' : Hp} {a C : Addr} {d : Option Addr} {fs : List (Str × V)} (h : ErrAt H a C d fs) (k : Kp [] H H') : ErrAt H' a C d fs := by
  cases h with
  | bare h => exact .bare (k _ _ h (by simp))
  | own h hd => exact .own (k _ _ h (by simp)) (k _ _ hd (by simp))
theorem fldIs.kp {H H' : Hp} {x : Flt} {fs : List (Str × V)} (h : fldIs H x fs) (k : Kp [] H H') : fldIs H' x fs := by
  cases x with
  | spare zs =>
    obtain ⟨t, e, ht⟩ := h
    exact ⟨t, e, k _ _ ht (by simp)⟩
  | _ => exact h
theorem ErrIs.kp {Cs : ErrCs} {H H' : Hp} {a : Addr} {x : Flt} (h : ErrIs Cs H a x) (k : Kp [] H H') : ErrIs Cs H' a x := by
  obtain ⟨d, fs, h1, h2, h3⟩ := h
  exact ⟨d, fs, h1.kp k, h2.kp k, h3⟩
section
variable {P : Program} {w : World} {K : PySem.W.Frag} {mg : Str → Option Value} {base : Heap}
theorem nes_ (a b : Str) (h : decide (a = b) = false) {A B : Prop} (k : B) : if decide (V.str a = V.str b) = true then A else B := by
  rw [decide_eq_false fun e => of_decide_eq_false h (V.str.inj e), if_neg Bool.false_ne_true]
  exact k
theorem yes_ (a : Str) {A B : Prop} (k : A) : if decide (V.str a = V.str a) = true then A else B := by
  rw [decide_eq_true rfl, if_pos rfl]
  exact k
theorem rd_isH {Cs : ErrCs} (Y : ErrK K Cs) {H : Hp} {a : Addr} {x : Flt} {Q : VK} (h : ErrIs Cs H a x) (j : Nat) (hj : j < 7) (q : Q (.bl (decide (x.ix = j))) H) : rIsH K [.ref a, .ref (Cs.at j)] H Q := by
  obtain ⟨d, fs, h1, _⟩ := h
  rw [← x.at_ix] at h1
  exact ⟨a, _, d, fs, .ref (Cs.at j), .ref (Cs.at j), _, rfl, .own _, h1, Y.exc _ x.ix_lt, Y.kit _ _ x.ix_lt hj, q⟩
theorem rd_isHV {Cs : ErrCs} (Y : ErrK K Cs) {H : Hp} {a : Addr} {x : Flt} {Q : VK} (h : ErrIs Cs H a x) (q : Q (.bl true) H) : rIsH K [.ref a, .ty "ValueError"] H Q := by
  obtain ⟨d, fs, h1, _⟩ := h
  rw [← x.at_ix] at h1
  exact ⟨a, _, d, fs, .ty "ValueError", .type "ValueError", _, rfl, .ty _, h1, Y.exc _ x.ix_lt, Y.ve _ x.ix_lt, q⟩
def spWordOf (K : PySem.W.Frag) (Cs : ErrCs) : Sp := fun vs H Q _ => ∃ (a : Addr) (x : Flt), vs = [.ref a] ∧ ErrIs Cs H a x ∧
  ∀ H' p v, Kp [] H H' → H p = none → H' p = some (.tup [.str x.word, v]) → (∀ G, Kp [] H' G → Dp K G v x.fld) → Q (.ref p) H'
structure GWord (mg : Str → Option Value) (Cs : ErrCs) : Prop where
  NoName : mg "NoName" = some (.ref Cs.name)
  Twice : mg "Twice" = some (.ref Cs.twice)
  Missing : mg "Missing" = some (.ref Cs.missing)
  Held : mg "Held" = some (.ref Cs.held)
  LetGo : mg "LetGo" = some (.ref Cs.letgo)
  NoSpare : mg "NoSpare" = some (.ref Cs.spare)
  NoRow : mg "NoRow" = some (.ref Cs.row)
theorem ok__law_word_of {f : Addr} {fd : FuncData} (F : Fun K "_law_word_of" "_law_word_of" s_law_word_of f fd) (B : Blt mg) {Cs : ErrCs} (Y : ErrK K Cs) (G : GWord mg Cs) : FnOk P w K mg base CX0 1 f fd P_law_word_of (spWordOf K Cs) := by
  refine F.ok sc_law_word_of (fun vs H Q E h => by obtain ⟨a, x, rfl, _⟩ := h; rfl) (fun cdv A outer s0 H vs Q E hr h => ?_)
  obtain ⟨a, x, rfl, hx, q⟩ := h
  obtain ⟨g_NoName, g_Twice, g_Missing, g_Held, g_LetGo, g_NoSpare, g_NoRow⟩ := G
  refine ⟨_, pss_cons (ps_set (i := 1) sc_law_word_of.nd rfl (Or.inl rfl) (pe_lst (pa_cons (pe_callB call_isH (by rfl) B.isinstance (by decide +kernel) (pa_cons (pv 0) (pa_cons (pe_gref (by rfl) g_NoName) pa_nil))) (pa_cons (pe_callB call_isH (by rfl) B.isinstance (by decide +kernel) (pa_cons (pv 0) (pa_cons (pe_gref (by rfl) g_Twice) pa_nil))) (pa_cons (pe_callB call_isH (by rfl) B.isinstance (by decide +kernel) (pa_cons (pv 0) (pa_cons (pe_gref (by rfl) g_Missing) pa_nil))) (pa_cons (pe_callB call_isH (by rfl) B.isinstance (by decide +kernel) (pa_cons (pv 0) (pa_cons (pe_gref (by rfl) g_Held) pa_nil))) pa_nil))))))
  (pss_cons (ps_set (i := 1) sc_law_word_of.nd rfl (Or.inl rfl) (pe_op op_cat (pv 1) (pe_lst (pa_cons (pe_callB call_isH (by rfl) B.isinstance (by decide +kernel) (pa_cons (pv 0) (pa_cons (pe_gref (by rfl) g_LetGo) pa_nil))) (pa_cons (pe_callB call_isH (by rfl) B.isinstance (by decide +kernel) (pa_cons (pv 0) (pa_cons (pe_gref (by rfl) g_NoSpare) pa_nil))) (pa_cons (pe_callB call_isH (by rfl) B.isinstance (by decide +kernel) (pa_cons (pv 0) (pa_cons (pe_gref (by rfl) g_NoRow) pa_nil))) pa_nil))))))
  (pss_cons (ps_set (i := 2) sc_law_word_of.nd rfl (Or.inl rfl) (pe_lst (pa_cons pe_str (pa_cons pe_str (pa_cons pe_str (pa_cons pe_str (pa_cons pe_str (pa_cons pe_str (pa_cons pe_str pa_nil)))))))))
  (pss_cons (ps_if (PW.pt (pw_or (pt_cmpR op_ne (pe_bm PySem.F.plainAttrs_list PySem.F.slot_list_count PySem.F.type_list_count mt_cntB (pv 1) (pa_cons pe_bl pa_nil)) pe_int (nomark _)) (pw_or1 (pt_not (pt_val (pe_callB call_isH (by rfl) B.isinstance (by decide +kernel) (pa_cons (pv 0) (pa_cons (pe_ty (T := "ValueError") (by rfl) B.ValueError (by decide +kernel)) pa_nil)))))))) (pss_one (ps_ret (pe_tup (pa_cons pe_str (pa_cons pe_non pa_nil)))))
   (pss_nil))
  (pss_cons (ps_set (i := 3) sc_law_word_of.nd rfl (Or.inl rfl) (pe_ix ix_list (pv 2) (pe_bm PySem.F.plainAttrs_list PySem.F.slot_list_index PySem.F.type_list_index mt_index (pv 1) (pa_cons pe_bl pa_nil)) (fun _ _ => rfl)))
  (pss_cons (ps_if (pt_cmpR op_eq (pv 3) pe_str (nomark _)) (pss_one (ps_ret (pe_tup (pa_cons (pv 3) (pa_cons pe_non pa_nil)))))
   (pss_nil))
  (pss_cons (ps_if (pt_cmpR op_eq (pv 3) pe_str (nomark _)) (pss_one (ps_ret (pe_tup (pa_cons (pv 3) (pa_cons (pe_fldH (pv 0) rfl) pa_nil)))))
   (pss_nil))
  (pss_cons (ps_if (pt_cmpR op_eq (pv 3) pe_str (nomark _)) (pss_one (ps_ret (pe_tup (pa_cons (pv 3) (pa_cons (pe_fldH (pv 0) rfl) pa_nil)))))
   (pss_nil))
  (pss_one (ps_ret (pe_tup (pa_cons (pv 3) (pa_cons (pe_fldH (pv 0) rfl) pa_nil)))))))))))), ?_⟩
  have A := At.nil H
  walk_at "rd"
  refine rd_isH Y hx 0 (by decide) ?_
  walk_at "rd"
  refine rd_isH Y hx 1 (by decide) ?_
  walk_at "rd"
  refine rd_isH Y hx 2 (by decide) ?_
  walk_at "rd"
  refine rd_isH Y hx 3 (by decide) ?_
  walk_at "rd"
  refine ⟨szl, fun p1 hp1 => A.u2 hp1 fun H1 A1 => ?_⟩
  have hx1 := hx.kp A1.keep
  walk_at "rd"
  refine rd_isH Y hx1 4 (by decide) ?_
  walk_at "rd"
  refine rd_isH Y hx1 5 (by decide) ?_
  walk_at "rd"
  refine rd_isH Y hx1 6 (by decide) ?_
  walk_at "rd"
  refine ⟨szl, fun p2 hp2 => A1.u2 hp2 fun H2 A2 => ?_⟩
  refine ⟨p1, p2, _, _, rfl, rfl, A2.get 0 rfl, A2.get 1 rfl, szl, fun p3 hp3 => A2.u2 hp3 fun H3 A3 => ?_⟩
  walk_at "rd"
  refine ⟨szl, fun p4 hp4 => A3.u2 hp4 fun H4 A4 => ?_⟩
  have hx4 := hx.kp A4.keep
  walk_at "rd"
  refine ⟨.inl ⟨rfl, _, A4.lst 2 rfl⟩, ?_⟩
  walk_at "rd"
  refine ⟨p3, [decide (x.ix = 0), decide (x.ix = 1), decide (x.ix = 2), decide (x.ix = 3), decide (x.ix = 4), decide (x.ix = 5), decide (x.ix = 6)], true, rfl, rfl, A4.lst 2 rfl, ?_⟩
  rw [show List.count true [decide (x.ix = 0), decide (x.ix = 1), decide (x.ix = 2), decide (x.ix = 3), decide (x.ix = 4), decide (x.ix = 5), decide (x.ix = 6)] = 1 by cases x <;> rfl]
  walk_at "rd"
  refine rd_iteN (fun h => absurd rfl h) (fun _ => ?_)
  walk_at "rd"
  refine rd_isHV Y hx4 ?_
  walk_at "rd"
  refine ⟨.inl ⟨rfl, _, A4.lst 2 rfl⟩, ?_⟩
  walk_at "rd"
  refine ⟨p3, _, .bl true, x.ix, .bl true, rfl, rfl, A4.lst 2 rfl, rfl, rfl, by cases x <;> rfl, rfl, fun m z hm hz => ?_, ?_⟩
  · have e : z = .bl false := by
      have h7 := x.ix_lt
      have hmm : m = 0 ∨ m = 1 ∨ m = 2 ∨ m = 3 ∨ m = 4 ∨ m = 5 := by omega
      rcases hmm with rfl | rfl | rfl | rfl | rfl | rfl <;> (cases hz; rw [decide_eq_false (by omega)])
    rw [e]
    rfl
  refine rd_ixL (A4.lst 3 rfl) (v := .str x.word) (by cases x <;> rfl) ?_
  walk_at "rd"
  have fin : ∀ {v : V}, (∀ G, Kp [] H4 G → Dp K G v x.fld) → ∀ p, H4 p = none → Q (.ref p) (upd H4 p (.tup [.str x.word, v])) := fun {v} hv p hp => by
    have A5 := A4.snoc hp (.tup [.str x.word, v])
    exact q _ p v A5.keep (A4.fresh0 hp) upd_same fun G k => hv G fun b o hb hn => k b o (by rw [upd_ne (ne_of_none hb hp)]; exact hb) hn
  obtain ⟨d, fs, hE, hf, hd⟩ := hx4
  have hexc := Y.exc _ x.ix_lt
  rw [x.at_ix] at hexc
  cases x with
  | name =>
    refine yes_ "name" ?_
    walk_at "rd"
    exact ⟨szl, fin fun G _ => .non⟩
  | twice z =>
    refine nes_ "twice" "name" (by decide +kernel) ?_
    walk_at "rd"
    refine nes_ "twice" "spare" (by decide +kernel) ?_
    walk_at "rd"
    refine nes_ "twice" "row" (by decide +kernel) ?_
    walk_at "rd"
    obtain ⟨d, rfl⟩ : ∃ d', d = some d' := Option.ne_none_iff_exists'.mp (hd (by intro h; cases h))
    refine ⟨a, _, d, fs, .str z, rfl, hE, hexc, Y.nT, (by rw [show fs = fN "name" (V.str z) from hf]; rfl), ?_⟩
    walk_at "rd"
    exact ⟨szl, fin fun G _ => .str z⟩
  | missing z =>
    refine nes_ "missing" "name" (by decide +kernel) ?_
    walk_at "rd"
    refine nes_ "missing" "spare" (by decide +kernel) ?_
    walk_at "rd"
    refine nes_ "missing" "row" (by decide +kernel) ?_
    walk_at "rd"
    obtain ⟨d, rfl⟩ : ∃ d', d = some d' := Option.ne_none_iff_exists'.mp (hd (by intro h; cases h))
    refine ⟨a, _, d, fs, .str z, rfl, hE, hexc, Y.nM, (by rw [show fs = fN "name" (V.str z) from hf]; rfl), ?_⟩
    walk_at "rd"
    exact ⟨szl, fin fun G _ => .str z⟩
  | held z =>
    refine nes_ "held" "name" (by decide +kernel) ?_
    walk_at "rd"
    refine nes_ "held" "spare" (by decide +kernel) ?_
    walk_at "rd"
    refine nes_ "held" "row" (by decide +kernel) ?_
    walk_at "rd"
    obtain ⟨d, rfl⟩ : ∃ d', d = some d' := Option.ne_none_iff_exists'.mp (hd (by intro h; cases h))
    refine ⟨a, _, d, fs, .str z, rfl, hE, hexc, Y.nH, (by rw [show fs = fN "name" (V.str z) from hf]; rfl), ?_⟩
    walk_at "rd"
    exact ⟨szl, fin fun G _ => .str z⟩
  | letgo z =>
    refine nes_ "letgo" "name" (by decide +kernel) ?_
    walk_at "rd"
    refine nes_ "letgo" "spare" (by decide +kernel) ?_
    walk_at "rd"
    refine nes_ "letgo" "row" (by decide +kernel) ?_
    walk_at "rd"
    obtain ⟨d, rfl⟩ : ∃ d', d = some d' := Option.ne_none_iff_exists'.mp (hd (by intro h; cases h))
    refine ⟨a, _, d, fs, .str z, rfl, hE, hexc, Y.nL, (by rw [show fs = fN "name" (V.str z) from hf]; rfl), ?_⟩
    walk_at "rd"
    exact ⟨szl, fin fun G _ => .str z⟩
  | spare zs =>
    obtain ⟨t, hf, ht⟩ := hf
    refine nes_ "spare" "name" (by decide +kernel) ?_
    walk_at "rd"
    refine yes_ "spare" ?_
    walk_at "rd"
    obtain ⟨d, rfl⟩ : ∃ d', d = some d' := Option.ne_none_iff_exists'.mp (hd (by intro h; cases h))
    refine ⟨a, _, d, fs, .ref t, rfl, hE, hexc, Y.nS, (by rw [hf]; rfl), ?_⟩
    walk_at "rd"
    refine ⟨szl, fin fun G k => ?_⟩
    refine .tup (.inl (.inl (k _ _ ht (by simp)))) ?_
    exact dp_strs zs
  | row n =>
    refine nes_ "row" "name" (by decide +kernel) ?_
    walk_at "rd"
    refine nes_ "row" "spare" (by decide +kernel) ?_
    walk_at "rd"
    refine yes_ "row" ?_
    walk_at "rd"
    obtain ⟨d, rfl⟩ : ∃ d', d = some d' := Option.ne_none_iff_exists'.mp (hd (by intro h; cases h))
    refine ⟨a, _, d, fs, .int n, rfl, hE, hexc, Y.nR, (by rw [show fs = fN "row" (V.int n) from hf]; rfl), ?_⟩
    walk_at "rd"
    exact ⟨szl, fin fun G _ => .int n⟩
/-- a refusal out of a try whose error is kept -/
theorem thrown_keep {Cs : ErrCs} {c : Value} {i j : Nat} {D : Ends} {σ : L2.St} {N : List Addr} {H : Hp} {x : Flt} (hm : PySem.W.exmOne K (.ref (x.cls Cs)) c = some true) (hi : i < σ.length)
    (k : ∀ a H', Kp N H H' → ErrIs Cs H' a x → D.nx (((σ.set i (some (.ref a))).set j (some (.ref a))).set i none) H') : Thrown Cs N H (WE (wKeep K c i (fun _ _ _ => tAsg (tVar i) (gName j)) D) σ) x := by
  have hs : ∀ a : Addr, (σ.set i (some (V.ref a)))[i]? = some (some (.ref a)) := fun a => List.getElem?_set_self hi
  have kk : ∀ {H1 : Hp} {a : Addr} {o : HO}, Kp N H H1 → H1 a = none → Kp N H (upd H1 a o) := fun k1 ha b o hb hn => by
    rw [upd_ne (ne_of_none (k1 b o hb hn) ha)]; exact k1 b o hb hn
  have k0 : ∀ {H1 : Hp} {a : Addr} {o : HO}, H1 a = none → Kp [] H1 (upd H1 a o) := fun ha b o hb _ => by
    rw [upd_ne (ne_of_none hb ha)]; exact hb
  cases x with
  | name => exact fun H1 k1 => ⟨hm, fun a ha => ⟨_, hs a, fun ha' => k a _ (kk k1 ha') ⟨none, [], .bare upd_same, rfl, fun h => absurd rfl h⟩⟩⟩
  | _ =>
    exact fun d fs H1 hd k1 h1 hf => ⟨hm, fun a ha => ⟨_, hs a, fun ha' => k a _ (kk k1 ha') ⟨some d, fs, .own upd_same (by rw [upd_ne (ne_of_none h1 ha')]; exact h1), hf.kp (k0 ha'), fun _ => by simp⟩⟩⟩
end
end Nn

namespace Nn
open PySem PySem.Spec PyProof.Rows L2
local macro_rules | `(tactic| walk_at "rd1") => `(tactic| first
  | with_reducible refine' rd_c ?_
  | ((with_reducible refine' rd_var ?h ?_); (case h => rfl))
  | with_reducible refine' rd_op ?_
  | with_reducible refine' rd_I0 ?_
  | with_reducible refine' rd_seq ?_
  | ((with_reducible refine' rd_mod ?h ?_); (case h => decide))
  | ((with_reducible refine' rd_fdiv ?h ?_); (case h => exact ⟨by decide, by decide⟩))
  | ((with_reducible refine' rd_pow ?h ?_); (case h => exact ⟨by decide, by decide, by decide⟩))
  | ((with_reducible refine' rd_mul ?h ?_); (case h => first | exact Or.inl (by decide) | exact Or.inr (by decide)))
  | with_reducible refine' rd_set ?_
  | with_reducible refine' rd_asg ?_
  | with_reducible refine' rd_cons ?_
  | with_reducible refine' rd_nil ?_
  | with_reducible refine' rd_call ?_
  | with_reducible refine' rd_cb ?_
  | with_reducible refine' rd_if ?_
  | with_reducible refine' rd_test ?_
  | with_reducible refine' rd_B ?_
  | with_reducible refine' rd_bl ?_
  | ((with_reducible refine' rd_eq ?h ?_); (case h => rfl))
  | ((with_reducible refine' rd_ne ?h ?_); (case h => rfl))
  | with_reducible refine' rd_not ?_
  | with_reducible refine' rd_and ?_
  | with_reducible refine' rd_or ?_
  | with_reducible refine' rd_notV ?_
  | with_reducible refine' rd_chain ?_
  | with_reducible refine' rd_ret ?_
  | with_reducible refine' rd_drop ?_
  | with_reducible refine' rd_next' ?_
  | with_reducible refine' rd_lst ?_
  | with_reducible refine' rd_tup ?_
  | with_reducible refine' rd_lc ?_
  | with_reducible refine' rd_rng1 ?_
  | with_reducible refine' rd_istr ?_
  | with_reducible refine' rd_ilst ?_
  | with_reducible refine' rd_ienum ?_
  | with_reducible refine' rd_bm0 ?_
  | with_reducible refine' rd_bm ?_
  | with_reducible refine' rd_m1 ?_
  | with_reducible refine' rd_sl ?_
  | with_reducible refine' rd_po0 ?_
  | with_reducible refine' rd_po1 ?_
  | with_reducible refine' rd_in ?_
  | with_reducible refine' rd_sub ?_
  | with_reducible refine' rd_ifE ?_
  | with_reducible refine' rd_un ?_
  | with_reducible refine' rd_U ?_
  | with_reducible refine' rd_brk ?_
  | with_reducible refine' rd_cont ?_
  | with_reducible refine' rd_yes ?_
  | with_reducible refine' rd_T ?_
  | with_reducible refine' rd_F ?_
  | with_reducible refine' rd_nT ?_
  | with_reducible refine' rd_nF ?_
  | with_reducible refine' rd_dni ?_
  | with_reducible refine' rd_di ?_
  | with_reducible refine' rd_dget ?_
  | with_reducible refine' rd_dget1 ?_
  | with_reducible refine' rd_dget2 ?_
  | with_reducible refine' rd_dget2N ?_
  | with_reducible refine' rd_dpop1 ?_
  | with_reducible refine' rd_ddel ?_
  | with_reducible refine' rd_mkN ?_
  | with_reducible refine' rd_mkV ?_
  | with_reducible refine' rd_dput ?_
  | with_reducible refine' rd_dnew ?_
  | with_reducible refine' rd_ikeys ?_
  | with_reducible refine' rd_gn ?_
  | with_reducible refine' rd_for ?_
  | with_reducible refine' rd_make ?_
  | with_reducible refine' rd_meth ?_
  | with_reducible refine' rd_fld ?_
  | with_reducible refine' rd_sfld ?_
  | with_reducible refine' rd_dc ?_
  | with_reducible refine' rd_items ?_
  | with_reducible refine' rd_sadd ?_
  | with_reducible refine' rd_ivals ?_
  | with_reducible refine' rd_callS ?_
  | with_reducible refine' rd_makeS ?_
  | with_reducible refine' rd_methS ?_
  | with_reducible refine' rd_fldH ?_
  | with_reducible refine' rd_mkO ?_)
local macro_rules | `(tactic| walk_at "sub") => `(tactic| repeat' (first | exact List.nil_sublist _ | exact List.Sublist.refl _ | apply List.Sublist.cons₂ | apply List.Sublist.cons))
local macro_rules | `(tactic| walk_at "rd") => `(tactic| repeat walk_at "rd1")

/-! ### fourteen unlike names -/
structure Pool (ps : List Str) : Prop where
  len : ps.length = 14
  nd : ps.Nodup
  ok : ∀ z ∈ ps, nameOk z = true
theorem nameOk_len {z : Str} (h : nameOk z = true) : 1 ≤ z.length ∧ z.length ≤ 8 := by
  unfold nameOk at h
  rw [Bool.and_eq_true] at h
  exact of_decide_eq_true h.1
theorem nameOk_sign {z : Str} (h : nameOk z = true) : ∀ c ∈ z.cps.toList, signOk c = true := by
  unfold nameOk at h
  rw [Bool.and_eq_true] at h
  exact fun c hc => List.all_eq_true.mp h.2 c hc
theorem signOk_lt {c : Nat} (h : signOk c = true) : 97 ≤ c ∧ c ≤ 122 := by
  unfold signOk at h
  rw [Bool.and_eq_true] at h
  exact ⟨of_decide_eq_true h.1, of_decide_eq_true h.2⟩
theorem nameOk_ok {z : Str} (h : nameOk z = true) : PyData.strOk z = true := by
  unfold PyData.strOk
  rw [← Array.all_toList]
  exact List.all_eq_true.mpr fun c hc => decide_eq_true (by have := (signOk_lt (nameOk_sign h c hc)).2; omega)
theorem nodup_mapr {α : Type} {f : Nat → α} {n : Nat} (h : ∀ i j, i < j → j < n → f i ≠ f j) : ((List.range n).map f).Nodup := by
  rw [List.Nodup, List.pairwise_map]
  exact (List.pairwise_lt_range (n := n)).imp_of_mem fun {a b} ha hb hab => h a b hab (List.mem_range.mp hb)
def lt (i : Int) : Nat := 97 + i.toNat
theorem letters_at {i : Int} (h0 : 0 ≤ i) (h : i < 26) : atI letters.cps.toList i = some (lt i) := by
  have key : ∀ j : Fin 26, letters.cps.toList[j.val]? = some (97 + j.val) := by decide +kernel
  obtain ⟨j, rfl⟩ := Int.eq_ofNat_of_zero_le h0
  exact atI_nat (key ⟨j, by omega⟩)
theorem lt_ok {i : Int} (h0 : 0 ≤ i) (h : i < 26) : signOk (lt i) = true := by
  unfold signOk lt
  rw [Bool.and_eq_true]
  exact ⟨decide_eq_true (by omega), decide_eq_true (by omega)⟩
def nmA (b : List Nat) (step : Int) (k : Nat) : List Nat := lt ((step + 5 * (k : Int)) % 26) :: b.take (((k : Int) + step) % 4).toNat
def nmB (b : List Nat) (step spot : Int) (k : Nat) : List Nat := b.take spot.toNat ++ [lt ((step + 7 * (k : Int)) % 26)] ++ b.drop spot.toNat
theorem pool_A {b : List Nat} {step : Int} (hb : ∀ c ∈ b, signOk c = true) (hl : b.length ≤ 7) : Pool ((List.range 14).map fun k => SX.S (nmA b step k)) := by
  refine ⟨by rw [List.length_map, List.length_range], nodup_mapr fun i j hij hj e => ?_, ?_⟩
  · have e := SX.S_inj e
    unfold nmA lt at e
    have := (List.cons.inj e).1
    omega
  · intro z hz
    obtain ⟨k, _, rfl⟩ := List.mem_map.mp hz
    rw [nameOk_S]
    unfold nmA
    have := List.length_take_le (((k : Int) + step) % 4).toNat b
    rw [Bool.and_eq_true]
    refine ⟨decide_eq_true ?_, ?_⟩
    · rw [List.length_cons, List.length_take]; omega
    · rw [List.all_cons, lt_ok (Int.emod_nonneg _ (by decide)) (Int.emod_lt_of_pos _ (by decide)), Bool.true_and]
      exact List.all_eq_true.mpr fun c hc => hb c (List.mem_of_mem_take hc)
theorem pool_B {b : List Nat} {step spot : Int} (hb : ∀ c ∈ b, signOk c = true) (hl : b.length ≤ 7) : Pool ((List.range 14).map fun k => SX.S (nmB b step spot k)) := by
  refine ⟨by rw [List.length_map, List.length_range], nodup_mapr fun i j hij hj e => ?_, ?_⟩
  · have e := SX.S_inj e
    unfold nmB at e
    rw [List.append_assoc, List.append_assoc] at e
    have e1 := List.append_cancel_left e
    have := (List.cons.inj e1).1
    unfold lt at this
    omega
  · intro z hz
    obtain ⟨k, _, rfl⟩ := List.mem_map.mp hz
    rw [nameOk_S]
    unfold nmB
    rw [Bool.and_eq_true]
    refine ⟨decide_eq_true ?_, ?_⟩
    · rw [List.length_append, List.length_append, List.length_take, List.length_drop]; show 1 ≤ _ + 1 + _ ∧ _ + 1 + _ ≤ 8; omega
    · rw [List.all_append, List.all_append]
      have h1 : (b.take spot.toNat).all signOk = true := List.all_eq_true.mpr fun c hc => hb c (List.mem_of_mem_take hc)
      have h2 : (b.drop spot.toNat).all signOk = true := List.all_eq_true.mpr fun c hc => hb c (List.mem_of_mem_drop hc)
      rw [h1, h2, List.all_cons, lt_ok (Int.emod_nonneg _ (by decide)) (Int.emod_lt_of_pos _ (by decide))]; rfl
section
variable {P : Program} {w : World} {K : PySem.W.Frag} {mg : Str → Option Value} {base : Heap}
structure C1 (P : Program) (w : World) (K : PySem.W.Frag) (mg : Str → Option Value) (base : Heap) : Prop where
  _law_next : Cl P w K mg base 1 "_law_next" spNext
def spPool : Sp := fun vs H Q _ => ∃ (S : Addr) (s : Int), vs = [.ref S] ∧ H S = some (.lst [.int s]) ∧ Sd s ∧
  ∀ s' p ps H', Sd s' → Pool ps → H p = none → H' p = some (.lst (ps.map V.str)) → Kp [S] H H' → H' S = some (.lst [.int s']) → Q (.ref p) H'
theorem ok__law_pool {f : Addr} {fd : FuncData} (F : Fun K "_law_pool" "_law_pool" s_law_pool f fd) (B : Blt mg) (C : C1 P w K mg base) : FnOk P w K mg base CX0 2 f fd P_law_pool spPool := by
  refine F.ok sc_law_pool (fun vs H Q E h => by obtain ⟨S, s, rfl, _⟩ := h; rfl) (fun cdv A outer s0 H vs Q E hr h => ?_)
  obtain ⟨S, s, rfl, hS, hs, q⟩ := h
  refine ⟨_, pss_cons (ps_set (i := 1) sc_law_pool.nd rfl (Or.inr rfl) pe_str)
  (pss_cons (ps_set (i := 2) sc_law_pool.nd rfl (Or.inr rfl) (pe_join pe_str (pe_lc (own := [("_law_k", 5)]) rfl sc_law_pool.nd (pi_range1 (by rfl) B.range (pa_cons (pe_cl C._law_next hr (by omega) (by rfl) (pa_cons (pv 0) (pa_cons pe_int pa_nil))) pa_nil)) (blkOk_by (N := N_law_pool) (sc := defScope s_law_pool) (by decide +kernel)) (fun _ _ _ _ _ => (pg_name (i := 5) sc_law_pool.nd rfl (Or.inl rfl))) (fun _ _ _ _ _ => pts_nil) (fun _ _ _ _ _ => (pe_ix ix_str (pv 1) (pe_cl C._law_next hr (by omega) (by rfl) (pa_cons (pv 0) (pa_cons pe_int pa_nil))) (fun _ _ => rfl))))))
  (pss_cons (ps_set (i := 3) sc_law_pool.nd rfl (Or.inr rfl) (pe_cl C._law_next hr (by omega) (by rfl) (pa_cons (pv 0) (pa_cons (pe_op op_add (pe_callB call_len_str (by rfl) B.len (by decide +kernel) (pa_cons (pv 2) pa_nil)) pe_int) pa_nil))))
  (pss_cons (ps_set (i := 4) sc_law_pool.nd rfl (Or.inr rfl) (pe_cl C._law_next hr (by omega) (by rfl) (pa_cons (pv 0) (pa_cons pe_int pa_nil))))
  (pss_cons (ps_if (pt_cmpR op_eq (pe_cl C._law_next hr (by omega) (by rfl) (pa_cons (pv 0) (pa_cons pe_int pa_nil))) pe_int (nomark _)) (pss_one (ps_ret (pe_lc (own := [("_law_k", 5)]) rfl sc_law_pool.nd (pi_range1 (by rfl) B.range (pa_cons pe_int pa_nil)) (blkOk_by (N := N_law_pool) (sc := defScope s_law_pool) (by decide +kernel)) (fun _ _ _ _ _ => (pg_name (i := 5) sc_law_pool.nd rfl (Or.inl rfl))) (fun _ _ _ _ _ => pts_nil) (fun _ _ _ _ _ => (pe_op op_add_str (pe_ix ix_str (pv 1) (pe_op op_mod (pe_op op_add (pv 4) (pe_op op_mul pe_int (pv 5))) pe_int) (fun _ _ => rfl)) (pe_slice C8.sl_txt (pv 2) po_none (po_some (pe_op op_mod (pe_op op_add (pv 5) (pv 4)) pe_int))))))))
   (pss_nil))
  (pss_one (ps_ret (pe_lc (own := [("_law_k", 5)]) rfl sc_law_pool.nd (pi_range1 (by rfl) B.range (pa_cons pe_int pa_nil)) (blkOk_by (N := N_law_pool) (sc := defScope s_law_pool) (by decide +kernel)) (fun _ _ _ _ _ => (pg_name (i := 5) sc_law_pool.nd rfl (Or.inl rfl))) (fun _ _ _ _ _ => pts_nil) (fun _ _ _ _ _ => (pe_op op_add_str (pe_op op_add_str (pe_slice C8.sl_txt (pv 2) po_none (po_some (pv 3))) (pe_ix ix_str (pv 1) (pe_op op_mod (pe_op op_add (pv 4) (pe_op op_mul pe_int (pv 5))) pe_int) (fun _ _ => rfl))) (pe_slice C8.sl_txt (pv 2) (po_some (pv 3)) po_none)))))))))), ?_⟩
  have A := At.one hS
  walk_at "rd"
  refine ⟨⟨_, rfl⟩, ?_⟩
  walk_at "rd"
  refine rd_next A 0 rfl hs (by decide) fun s r1 H1 hs h0 h1 A1 => ?_
  walk_at "rd"
  refine ⟨_, rfl, by omega, by omega, fun D hD => ?_⟩
  refine lc_range (fun i H' => ∃ (s : Int) (zs : List Nat), Sd s ∧ zs.length = i ∧ (∀ c ∈ zs, signOk c = true) ∧ At [S] H H' [(S, .lst [.int s]), (D, .lst (sg zs))] []) ⟨s, [], hs, rfl, by simp, A1.snoc hD _⟩ ?_ ?_
  · rintro i H5 hi ⟨s, zs, hs, hl, hz, A5⟩
    refine ⟨rfl, ?_⟩
    walk_at "rd"
    refine rd_next A5 0 rfl hs (by decide) fun s r H6 hs h0 h1 A6 => ?_
    obtain ⟨c, hc, e⟩ := atI_ex (xs := letters.cps.toList) h0 (by rw [letters_len]; exact h1)
    refine rd_ixS szl e ?_
    refine ⟨_, A6.get 1 rfl, by rw [sg_len]; exact szn' (by omega), s, zs ++ [c], hs, by rw [List.length_append, hl]; rfl, ?_, ?_⟩
    · intro d hd
      rcases List.mem_append.mp hd with hd | hd
      · exact hz d hd
      · rw [List.mem_singleton] at hd; exact hd ▸ (letters_ok c hc).1
    · have := A6.set 1 rfl (.lst (sg zs ++ [.str ⟨#[c]⟩]))
      rw [show sg (zs ++ [c]) = sg zs ++ [.str ⟨#[c]⟩] by unfold sg; rw [List.map_append]; rfl]
      exact this
  rintro H2 ⟨s1, b, hs1, hl, hz, A2⟩
  clear A1 A hs
  have hb7 : b.length ≤ 7 := by omega
  refine ⟨_, _, sgs b, rfl, rfl, .inl ?_, ?_, ?_⟩
  · rw [← sg_sgs]; exact A2.lst 1 rfl
  · rw [sgs_size]; omega
  rw [show Txt.join ("" : Str) (sgs b) = SX.S b from join_sgs b]
  walk_at "rd"
  refine ⟨_, rfl, by rw [SX.S_len]; exact szn (by omega), ?_⟩
  rw [SX.S_len]
  walk_at "rd"
  refine rd_next A2 0 rfl hs1 (by omega) fun s2 spot H3 hs2 p0 p1 A3 => ?_
  walk_at "rd"
  refine rd_next A3 0 rfl hs2 (by decide) fun s3 step H4 hs3 t0 t1 A4 => ?_
  walk_at "rd"
  refine rd_next A4 0 rfl hs3 (by decide) fun s4 way H5 hs4 w0 w1 A5 => ?_
  walk_at "rd"
  clear A2 A3 A4 hs1 hs2 hs3 hD
  refine rd_ite (fun _ => ?_) (fun _ => ?_)
  · walk_at "rd"
    refine ⟨_, rfl, by decide, by decide, fun D2 hD2 => ?_⟩
    refine lc_range (n := 14) (fun i H' => At [S] H H' [(S, .lst [.int s4]), (D, .lst (sg b)), (D2, .lst (((List.range i).map fun k => SX.S (nmA b step k)).map V.str))] []) (A5.snoc hD2 _) ?_ ?_
    · rintro i H6 hi A6
      refine ⟨rfl, ?_⟩
      walk_at "rd"
      have m0 := Int.emod_nonneg (step + 5 * (i : Int)) (b := 26) (by decide)
      have m1 := Int.emod_lt_of_pos (step + 5 * (i : Int)) (b := 26) (by decide)
      have n0 := Int.emod_nonneg ((i : Int) + step) (b := 4) (by decide)
      rw [Int.zero_add]
      refine rd_ixS szl (letters_at m0 m1) ?_
      walk_at "rd"
      refine ⟨_, rfl, by rw [SX.S_len]; exact szn (by omega), ?_⟩
      rw [SX.slice_to n0]
      refine ⟨_, _, rfl, rfl, szn ?_, ?_⟩
      · rw [SX.S_len, SX.S_len, List.length_take]; show 1 + _ ≤ _; omega
      rw [show (⟨#[lt ((step + 5 * (i : Int)) % 26)]⟩ : Str) ++ SX.S (b.take (((i : Int) + step) % 4).toNat) = SX.S (nmA b step i) from SX.S_cat [_] _]
      refine ⟨_, A6.get 2 rfl, by rw [List.length_map, List.length_map, List.length_range]; exact szn' (by omega), ?_⟩
      have := A6.set 2 rfl (.lst ((((List.range i).map fun k => SX.S (nmA b step k)).map V.str) ++ [.str (SX.S (nmA b step i))]))
      rw [List.range_succ, List.map_append, List.map_append]
      exact this
    · intro H6 A6
      exact q s4 D2 _ H6 hs4 (pool_A hz hb7) (A6.new0 2 rfl (by rw [List.mem_singleton]; exact A6.ne 2 0 rfl rfl (by decide))) (A6.get 2 rfl) A6.keep (A6.get 0 rfl)
  · walk_at "rd"
    refine ⟨_, rfl, by decide, by decide, fun D2 hD2 => ?_⟩
    refine lc_range (n := 14) (fun i H' => At [S] H H' [(S, .lst [.int s4]), (D, .lst (sg b)), (D2, .lst (((List.range i).map fun k => SX.S (nmB b step spot k)).map V.str))] []) (A5.snoc hD2 _) ?_ ?_
    · rintro i H6 hi A6
      refine ⟨rfl, ?_⟩
      walk_at "rd"
      have m0 := Int.emod_nonneg (step + 7 * (i : Int)) (b := 26) (by decide)
      have m1 := Int.emod_lt_of_pos (step + 7 * (i : Int)) (b := 26) (by decide)
      refine ⟨_, rfl, by rw [SX.S_len]; exact szn (by omega), ?_⟩
      rw [SX.slice_to p0, Int.zero_add]
      walk_at "rd"
      refine rd_ixS szl (letters_at m0 m1) ?_
      refine ⟨_, _, rfl, rfl, szn ?_, ?_⟩
      · rw [SX.S_len, List.length_take]; show _ + 1 ≤ _; omega
      rw [show SX.S (b.take spot.toNat) ++ (⟨#[lt ((step + 7 * (i : Int)) % 26)]⟩ : Str) = SX.S (b.take spot.toNat ++ [lt ((step + 7 * (i : Int)) % 26)]) from SX.S_cat _ [_]]
      walk_at "rd"
      refine ⟨_, rfl, by rw [SX.S_len]; exact szn (by omega), ?_⟩
      rw [SX.slice_from p0]
      refine ⟨_, _, rfl, rfl, szn ?_, ?_⟩
      · rw [SX.S_len, SX.S_len, List.length_append, List.length_take, List.length_drop]; show _ + 1 + _ ≤ _; omega
      rw [SX.S_cat]
      refine ⟨_, A6.get 2 rfl, by rw [List.length_map, List.length_map, List.length_range]; exact szn' (by omega), ?_⟩
      have := A6.set 2 rfl (.lst ((((List.range i).map fun k => SX.S (nmB b step spot k)).map V.str) ++ [.str (SX.S (nmB b step spot i))]))
      rw [List.range_succ, List.map_append, List.map_append]
      exact this
    · intro H6 A6
      exact q s4 D2 _ H6 hs4 (pool_B hz hb7) (A6.new0 2 rfl (by rw [List.mem_singleton]; exact A6.ne 2 0 rfl rfl (by decide))) (A6.get 2 rfl) A6.keep (A6.get 0 rfl)
end
end Nn

namespace Nn
open PySem PySem.Spec PyProof.Rows L2
theorem strOk_tl {z : Str} (h : ∀ c ∈ TL.tl z, c < 0x110000) : PyData.strOk z = true := by
  unfold PyData.strOk
  rw [← Array.all_toList]
  exact List.all_eq_true.mpr fun c hc => decide_eq_true (h c hc)
/-- a text that is short -/
def Short (z : Str) : Prop := z.length ≤ 1000 ∧ PyData.strOk z = true
theorem short_cps {z : Str} (h : Short z) : ∀ c ∈ z.cps.toList, c < 16 ^ 8 := by
  have := h.2
  unfold PyData.strOk at this
  rw [← Array.all_toList] at this
  intro c hc
  have := of_decide_eq_true (List.all_eq_true.mp this c hc)
  omega
theorem short_name {z : Str} (h : nameOk z = true) : Short z := ⟨by have := nameOk_len h; omega, nameOk_ok h⟩
theorem short_repr {z : Str} (h : Short z) : (reprText z).length ≤ 10002 := by
  have := PySem.StrLaws.reprText_len z (short_cps h)
  have := h.1
  omega
def ShP (e : Str × Option Str) : Prop := Short e.1 ∧ ∀ z, e.2 = some z → Short z
end Nn

namespace Nn
open PySem PySem.Spec PyProof.Rows L2
local macro_rules | `(tactic| walk_at "rd1") => `(tactic| first
  | with_reducible refine' rd_c ?_
  | ((with_reducible refine' rd_var ?h ?_); (case h => rfl))
  | with_reducible refine' rd_op ?_
  | with_reducible refine' rd_I0 ?_
  | with_reducible refine' rd_seq ?_
  | ((with_reducible refine' rd_mod ?h ?_); (case h => decide))
  | ((with_reducible refine' rd_fdiv ?h ?_); (case h => exact ⟨by decide, by decide⟩))
  | ((with_reducible refine' rd_pow ?h ?_); (case h => exact ⟨by decide, by decide, by decide⟩))
  | ((with_reducible refine' rd_mul ?h ?_); (case h => first | exact Or.inl (by decide) | exact Or.inr (by decide)))
  | with_reducible refine' rd_set ?_
  | with_reducible refine' rd_asg ?_
  | with_reducible refine' rd_cons ?_
  | with_reducible refine' rd_nil ?_
  | with_reducible refine' rd_call ?_
  | with_reducible refine' rd_cb ?_
  | with_reducible refine' rd_if ?_
  | with_reducible refine' rd_test ?_
  | with_reducible refine' rd_B ?_
  | with_reducible refine' rd_bl ?_
  | ((with_reducible refine' rd_eq ?h ?_); (case h => rfl))
  | ((with_reducible refine' rd_ne ?h ?_); (case h => rfl))
  | with_reducible refine' rd_not ?_
  | with_reducible refine' rd_and ?_
  | with_reducible refine' rd_or ?_
  | with_reducible refine' rd_notV ?_
  | with_reducible refine' rd_chain ?_
  | with_reducible refine' rd_ret ?_
  | with_reducible refine' rd_drop ?_
  | with_reducible refine' rd_next' ?_
  | with_reducible refine' rd_lst ?_
  | with_reducible refine' rd_tup ?_
  | with_reducible refine' rd_lc ?_
  | with_reducible refine' rd_rng1 ?_
  | with_reducible refine' rd_istr ?_
  | with_reducible refine' rd_ilst ?_
  | with_reducible refine' rd_ienum ?_
  | with_reducible refine' rd_bm0 ?_
  | with_reducible refine' rd_bm ?_
  | with_reducible refine' rd_m1 ?_
  | with_reducible refine' rd_sl ?_
  | with_reducible refine' rd_po0 ?_
  | with_reducible refine' rd_po1 ?_
  | with_reducible refine' rd_in ?_
  | with_reducible refine' rd_sub ?_
  | with_reducible refine' rd_ifE ?_
  | with_reducible refine' rd_un ?_
  | with_reducible refine' rd_U ?_
  | with_reducible refine' rd_brk ?_
  | with_reducible refine' rd_cont ?_
  | with_reducible refine' rd_yes ?_
  | with_reducible refine' rd_T ?_
  | with_reducible refine' rd_F ?_
  | with_reducible refine' rd_nT ?_
  | with_reducible refine' rd_nF ?_
  | with_reducible refine' rd_dni ?_
  | with_reducible refine' rd_di ?_
  | with_reducible refine' rd_dget ?_
  | with_reducible refine' rd_dget1 ?_
  | with_reducible refine' rd_dget2 ?_
  | with_reducible refine' rd_dget2N ?_
  | with_reducible refine' rd_dpop1 ?_
  | with_reducible refine' rd_ddel ?_
  | with_reducible refine' rd_mkN ?_
  | with_reducible refine' rd_mkV ?_
  | with_reducible refine' rd_dput ?_
  | with_reducible refine' rd_dnew ?_
  | with_reducible refine' rd_ikeys ?_
  | with_reducible refine' rd_gn ?_
  | with_reducible refine' rd_for ?_
  | with_reducible refine' rd_make ?_
  | with_reducible refine' rd_meth ?_
  | with_reducible refine' rd_fld ?_
  | with_reducible refine' rd_sfld ?_
  | with_reducible refine' rd_dc ?_
  | with_reducible refine' rd_items ?_
  | with_reducible refine' rd_sadd ?_
  | with_reducible refine' rd_ivals ?_
  | with_reducible refine' rd_callS ?_
  | with_reducible refine' rd_makeS ?_
  | with_reducible refine' rd_methS ?_
  | with_reducible refine' rd_fldH ?_
  | with_reducible refine' rd_mkO ?_)
local macro_rules | `(tactic| walk_at "sub") => `(tactic| repeat' (first | exact List.nil_sublist _ | exact List.Sublist.refl _ | apply List.Sublist.cons₂ | apply List.Sublist.cons))
local macro_rules | `(tactic| walk_at "rd") => `(tactic| repeat walk_at "rd1")

section
variable {P : Program} {w : World} {K : PySem.W.Frag} {mg : Str → Option Value} {base : Heap}
/-! ### a list in a drawn order -/
theorem strs_ne (zs : List Str) (s : Int) : zs.map V.str ≠ [V.int s] := by
  cases zs with
  | nil => intro e; cases e
  | cons z r => intro e; cases e
/-- a list of texts stands while the state changes -/
theorem Kp.strs {S a : Addr} {s : Int} {H H' : Hp} {zs : List Str} (k : Kp [S] H H') (hS : H S = some (.lst [.int s])) (h : SqL K H a (zs.map V.str)) : SqL K H' a (zs.map V.str) := by
  rcases h with (h | ⟨o, h⟩) | h
  · refine .inl (.inl (k _ _ h fun e => ?_))
    rw [List.mem_singleton] at e
    subst e
    rw [hS] at h
    exact strs_ne zs s (HO.lst.inj (Option.some.inj h)).symm
  · refine .inl (.inr ⟨o, k _ _ h fun e => ?_⟩)
    rw [List.mem_singleton] at e
    subst e
    rw [hS] at h
    cases h
  · exact .inr h
theorem eqv_strs_nil (zs : List Str) : PyData.eqv (.list (zs.map PyData.str)) (.list []) = decide (zs = []) := by
  cases zs with
  | nil => rfl
  | cons c r => rfl
def spTurned (K : PySem.W.Frag) : Sp := fun vs H Q _ => ∃ (S a : Addr) (s : Int) (zs : List Str), vs = [.ref S, .ref a] ∧ H S = some (.lst [.int s]) ∧ Sd s ∧ SqL K H a (zs.map V.str) ∧ (∀ z ∈ zs, PyData.strOk z = true) ∧ zs.length ≤ 1000 ∧
  ∀ s' p ys H', Sd s' → List.Perm ys zs → H p = none → H' p = some (.lst (ys.map V.str)) → Kp [S] H H' → H' S = some (.lst [.int s']) → Q (.ref p) H'
theorem ok__law_turned {f : Addr} {fd : FuncData} (F : Fun K "_law_turned" "_law_turned" s_law_turned f fd) (B : Blt mg) (C : C1 P w K mg base) : FnOk P w K mg base CX0 2 f fd P_law_turned (spTurned K) := by
  refine F.ok sc_law_turned (fun vs H Q E h => by obtain ⟨S, a, s, zs, rfl, _⟩ := h; rfl) (fun cdv A outer s0 H vs Q E hr h => ?_)
  obtain ⟨S, a, s, zs, rfl, hS, hs, hZ, hok, hlen, q⟩ := h
  refine ⟨_, pss_cons (ps_set (i := 2) sc_law_turned.nd rfl (Or.inl rfl) (pe_callTy call_list_of (by rfl) B.list (by decide +kernel) (pa_cons (pv 1) pa_nil)))
  (pss_cons (ps_set (i := 3) sc_law_turned.nd rfl (Or.inl rfl) (pe_lst pa_nil))
  (pss_cons (ps_while PassesOwn.never (pt_cmpR (op_neD hr.units) (pv 2) (pe_lst pa_nil) (nomark _)) (pss_one (ps_expr (pe_bm PySem.F.plainAttrs_list PySem.F.slot_list_append PySem.F.type_list_append mt_append (pv 3) (pa_cons (pe_bm PySem.F.plainAttrs_list PySem.F.slot_list_pop PySem.F.type_list_pop mt_popAt (pv 2) (pa_cons (pe_cl C._law_next hr (by omega) (by rfl) (pa_cons (pv 0) (pa_cons (pe_callB call_len_seq (by rfl) B.len (by decide +kernel) (pa_cons (pv 2) pa_nil)) pa_nil))) pa_nil)) pa_nil)))))
  (pss_one (ps_ret (pv 3))))), ?_⟩
  have A := At.one hS
  walk_at "rd"
  refine ⟨_, _, rfl, .inl hZ, fun l1 hl1 => A.u2 hl1 fun H1 A1 => ?_⟩
  walk_at "rd"
  refine ⟨szl, fun l2 hl2 => A1.u2 hl2 fun H2 A2 => ?_⟩
  walk_at "rd"
  refine rd_while (fun m σ H' => ∃ (s : Int) (left found : List Str), Sd s ∧ left.length = m ∧ List.Perm (found ++ left) zs ∧ σ = [some (.ref S), some (.ref a), some (.ref l1), some (.ref l2)] ∧
    At [S] H H' [(S, .lst [.int s]), (l1, .lst (left.map V.str)), (l2, .lst (found.map V.str))] []) zs.length ⟨s, zs, [], hs, rfl, List.Perm.refl _, rfl, A2⟩ ?_
  rintro m σ H3 ⟨s, left, found, hs, rfl, hp, rfl, A3⟩
  have hlok : ∀ z ∈ left, PyData.strOk z = true := fun z hz => hok z (hp.mem_iff.mp (List.mem_append_right _ hz))
  have hll : found.length + left.length = zs.length := by rw [← List.length_append]; exact hp.length_eq
  walk_at "rd"
  refine ⟨szl, fun e he => ?_⟩
  refine ⟨.list (left.map PyData.str), .list [], .lst ((A3.skip (Sk.of he)).lst 1 rfl) (dp_strs _), .lst (.inl (.inl upd_same)) .nil, shaped_strs hlok, rfl, ?_⟩
  have A4 := A3.skip (Sk.of (o := .lst []) he)
  rw [eqv_strs_nil]
  refine rd_bl ?_
  refine rd_iteN (fun hne => ?_) (fun hnil => ?_)
  · have hpos : 0 < left.length := List.length_pos_iff.mpr hne
    refine ⟨_, fun _ _ h => h, ?_⟩
    walk_at "rd"
    refine ⟨.inl ⟨rfl, _, A4.lst 2 rfl⟩, ?_⟩
    walk_at "rd"
    refine ⟨.inl ⟨rfl, _, A4.lst 1 rfl⟩, ?_⟩
    walk_at "rd"
    refine ⟨_, _, rfl, .inl (A4.lst 1 rfl), ?_⟩
    rw [List.length_map]
    walk_at "rd"
    refine rd_next A4 0 rfl hs (by omega) fun s' r H5 hs' h0 h1 A5 => ?_
    walk_at "rd"
    have hr : r.toNat < left.length := by omega
    refine ⟨l1, left.map V.str, r, r.toNat, .str left[r.toNat], rfl, rfl, A5.get 1 rfl, by omega, by omega, PySem.StrLaws.seqIndex_nonneg h0 (by rw [List.length_map]; omega), by rw [List.getElem?_map, List.getElem?_eq_getElem hr]; rfl, ?_⟩
    refine A5.s2 1 rfl fun H6 A6 => ?_
    walk_at "rd"
    refine ⟨l2, _, _, rfl, rfl, A6.get 2 rfl, by rw [List.length_map]; exact szn' (by omega), ?_⟩
    have A7 := A6.set 2 rfl (.lst (found.map V.str ++ [.str left[r.toNat]]))
    refine ⟨left.length - 1, by omega, s', left.eraseIdx r.toNat, found ++ [left[r.toNat]], hs', by rw [List.length_eraseIdx_of_lt hr], ?_, rfl, ?_⟩
    · refine List.Perm.trans ?_ hp
      rw [List.append_assoc]
      refine List.Perm.append_left _ ?_
      exact erase_perm hr
    · rw [map_erase] at A7
      rw [List.map_append]
      exact A7
  · walk_at "rd"
    subst hnil
    rw [List.append_nil] at hp
    exact q s l2 found _ hs hp (A4.new0 2 rfl (by rw [List.mem_singleton]; exact A4.ne 2 0 rfl rfl (by decide))) (A4.get 2 rfl) A4.keep (A4.get 0 rfl)
end
end Nn

namespace Nn
open PySem PySem.Spec PyProof.Rows L2
local macro_rules | `(tactic| walk_at "rd1") => `(tactic| first
  | with_reducible refine' rd_c ?_
  | ((with_reducible refine' rd_var ?h ?_); (case h => rfl))
  | with_reducible refine' rd_op ?_
  | with_reducible refine' rd_I0 ?_
  | with_reducible refine' rd_seq ?_
  | ((with_reducible refine' rd_mod ?h ?_); (case h => decide))
  | ((with_reducible refine' rd_fdiv ?h ?_); (case h => exact ⟨by decide, by decide⟩))
  | ((with_reducible refine' rd_pow ?h ?_); (case h => exact ⟨by decide, by decide, by decide⟩))
  | ((with_reducible refine' rd_mul ?h ?_); (case h => first | exact Or.inl (by decide) | exact Or.inr (by decide)))
  | with_reducible refine' rd_set ?_
  | with_reducible refine' rd_asg ?_
  | with_reducible refine' rd_cons ?_
  | with_reducible refine' rd_nil ?_
  | with_reducible refine' rd_call ?_
  | with_reducible refine' rd_cb ?_
  | with_reducible refine' rd_if ?_
  | with_reducible refine' rd_test ?_
  | with_reducible refine' rd_B ?_
  | with_reducible refine' rd_bl ?_
  | ((with_reducible refine' rd_eq ?h ?_); (case h => rfl))
  | ((with_reducible refine' rd_ne ?h ?_); (case h => rfl))
  | with_reducible refine' rd_not ?_
  | with_reducible refine' rd_and ?_
  | with_reducible refine' rd_or ?_
  | with_reducible refine' rd_notV ?_
  | with_reducible refine' rd_chain ?_
  | with_reducible refine' rd_ret ?_
  | with_reducible refine' rd_drop ?_
  | with_reducible refine' rd_next' ?_
  | with_reducible refine' rd_lst ?_
  | with_reducible refine' rd_tup ?_
  | with_reducible refine' rd_lc ?_
  | with_reducible refine' rd_rng1 ?_
  | with_reducible refine' rd_istr ?_
  | with_reducible refine' rd_ilst ?_
  | with_reducible refine' rd_ienum ?_
  | with_reducible refine' rd_bm0 ?_
  | with_reducible refine' rd_bm ?_
  | with_reducible refine' rd_m1 ?_
  | with_reducible refine' rd_sl ?_
  | with_reducible refine' rd_po0 ?_
  | with_reducible refine' rd_po1 ?_
  | with_reducible refine' rd_in ?_
  | with_reducible refine' rd_sub ?_
  | with_reducible refine' rd_ifE ?_
  | with_reducible refine' rd_un ?_
  | with_reducible refine' rd_U ?_
  | with_reducible refine' rd_brk ?_
  | with_reducible refine' rd_cont ?_
  | with_reducible refine' rd_yes ?_
  | with_reducible refine' rd_T ?_
  | with_reducible refine' rd_F ?_
  | with_reducible refine' rd_nT ?_
  | with_reducible refine' rd_nF ?_
  | with_reducible refine' rd_dni ?_
  | with_reducible refine' rd_di ?_
  | with_reducible refine' rd_dget ?_
  | with_reducible refine' rd_dget1 ?_
  | with_reducible refine' rd_dget2 ?_
  | with_reducible refine' rd_dget2N ?_
  | with_reducible refine' rd_dpop1 ?_
  | with_reducible refine' rd_ddel ?_
  | with_reducible refine' rd_mkN ?_
  | with_reducible refine' rd_mkV ?_
  | with_reducible refine' rd_dput ?_
  | with_reducible refine' rd_dnew ?_
  | with_reducible refine' rd_ikeys ?_
  | with_reducible refine' rd_gn ?_
  | with_reducible refine' rd_for ?_
  | with_reducible refine' rd_make ?_
  | with_reducible refine' rd_meth ?_
  | with_reducible refine' rd_fld ?_
  | with_reducible refine' rd_sfld ?_
  | with_reducible refine' rd_dc ?_
  | with_reducible refine' rd_items ?_
  | with_reducible refine' rd_sadd ?_
  | with_reducible refine' rd_ivals ?_
  | with_reducible refine' rd_callS ?_
  | with_reducible refine' rd_makeS ?_
  | with_reducible refine' rd_methS ?_
  | with_reducible refine' rd_fldH ?_
  | with_reducible refine' rd_mkO ?_)
local macro_rules | `(tactic| walk_at "sub") => `(tactic| repeat' (first | exact List.nil_sublist _ | exact List.Sublist.refl _ | apply List.Sublist.cons₂ | apply List.Sublist.cons))
local macro_rules | `(tactic| walk_at "rd") => `(tactic| repeat walk_at "rd1")

section
variable {P : Program} {w : World} {K : PySem.W.Frag} {mg : Str → Option Value} {base : Heap}
/-! ### things -/
def scalV (v : V) : Prop := (∃ i, v = .int i) ∨ ∃ z, v = .str z ∧ PyData.strOk z = true
def spThing : Sp := fun vs H Q _ => ∃ (S : Addr) (s : Int), vs = [.ref S] ∧ H S = some (.lst [.int s]) ∧ Sd s ∧ ∀ s' v H', Sd s' → scalV v → Kp [S] H H' → H' S = some (.lst [.int s']) → Q v H'
theorem ok__law_thing {f : Addr} {fd : FuncData} (F : Fun K "_law_thing" "_law_thing" s_law_thing f fd) (B : Blt mg) (C : C1 P w K mg base) : FnOk P w K mg base CX0 2 f fd P_law_thing spThing := by
  refine F.ok sc_law_thing (fun vs H Q E h => by obtain ⟨S, s, rfl, _⟩ := h; rfl) (fun cdv A outer s0 H vs Q E hr h => ?_)
  obtain ⟨S, s, rfl, hS, hs, q⟩ := h
  refine ⟨_, pss_cons (ps_set (i := 1) sc_law_thing.nd rfl (Or.inl rfl) (pe_op op_add (pe_op op_mul (pe_cl C._law_next hr (by omega) (by rfl) (pa_cons (pv 0) (pa_cons (pe_op op_pow pe_int pe_int) pa_nil))) (pe_op op_pow pe_int pe_int)) (pe_cl C._law_next hr (by omega) (by rfl) (pa_cons (pv 0) (pa_cons (pe_op op_pow pe_int pe_int) pa_nil)))))
  (pss_one (ps_ret (pe_ix ix_list (pe_lst (pa_cons pe_int (pa_cons pe_int (pa_cons (pe_un un_neg pe_int) (pa_cons pe_str (pa_cons pe_str (pa_cons (pv 1) (pa_cons (pe_op op_sub pe_int (pv 1)) (pa_cons pe_str pa_nil))))))))) (pe_cl C._law_next hr (by omega) (by rfl) (pa_cons (pv 0) (pa_cons pe_int pa_nil))) (fun _ _ => rfl)))), ?_⟩
  have A := At.one hS
  have e31 : (2 : Int) ^ Int.toNat 31 = 2147483648 := by decide
  walk_at "rd"
  rw [e31]
  refine rd_next A 0 rfl hs (by decide) fun s1 r1 H1 hs1 h0 h1 A1 => ?_
  walk_at "rd"
  refine rd_mul (Or.inl ⟨by omega, by omega⟩) ?_
  walk_at "rd"
  rw [e31]
  refine rd_next A1 0 rfl hs1 (by decide) fun s2 r2 H2 hs2 h2 h3 A2 => ?_
  walk_at "rd"
  generalize r1 * 10 ^ Int.toNat 50 + r2 = far
  refine ⟨szl, fun p hp => A2.u2 hp fun H3 A3 => ?_⟩
  walk_at "rd"
  refine rd_next A3 0 rfl hs2 (by decide) fun s4 r4 H4 hs4 h4 h5 A4 => ?_
  obtain ⟨x, hx, e⟩ := atI_ex (xs := [V.int 0, .int 7, .int (-1), .str "a", .str "", .int far, .int (0 - far), .str "a-b c"]) h4 h5
  refine rd_ixL (A4.lst 1 rfl) e ?_
  refine q s4 x H4 hs4 ?_ A4.keep (A4.get 0 rfl)
  simp only [List.mem_cons, List.not_mem_nil, or_false] at hx
  rcases hx with rfl | rfl | rfl | rfl | rfl | rfl | rfl | rfl
  · exact .inl ⟨_, rfl⟩
  · exact .inl ⟨_, rfl⟩
  · exact .inl ⟨_, rfl⟩
  · exact .inr ⟨_, rfl, by decide +kernel⟩
  · exact .inr ⟨_, rfl, by decide +kernel⟩
  · exact .inl ⟨_, rfl⟩
  · exact .inl ⟨_, rfl⟩
  · exact .inr ⟨_, rfl, by decide +kernel⟩
section
variable {M : List Addr} {H0 H : Hp} {L T : List (Addr × HO)} {S a : Addr} {s n : Int} {Q : VK} {E : XK}
theorem rd_pool (A : At M H0 H L T) (i : Nat) (h : L[i]? = some (S, .lst [.int s])) (hs : Sd s) (q : ∀ s' p ps H', Sd s' → Pool ps → At M H0 H' (L.set i (S, .lst [.int s']) ++ [(p, .lst (ps.map V.str))]) T → Q (.ref p) H') : spPool [.ref S] H Q E :=
  ⟨S, s, rfl, A.in h, hs, fun s' p ps H' a b c d e g => q s' p ps H' a b (A.add (A.c1 i h e g) (map_set_fst L i h) c d)⟩
theorem rd_turned (A : At M H0 H L T) (i : Nat) (h : L[i]? = some (S, .lst [.int s])) (hs : Sd s) {zs : List Str} (hz : SqL K H a (zs.map V.str)) (hok : ∀ z ∈ zs, PyData.strOk z = true) (hl : zs.length ≤ 1000)
    (q : ∀ s' p ys H', Sd s' → List.Perm ys zs → At M H0 H' (L.set i (S, .lst [.int s']) ++ [(p, .lst (ys.map V.str))]) T → Kp [S] H H' → Q (.ref p) H') : spTurned K [.ref S, .ref a] H Q E :=
  ⟨S, a, s, zs, rfl, A.in h, hs, hz, hok, hl, fun s' p ys H' a b c d e g => q s' p ys H' a b (A.add (A.c1 i h e g) (map_set_fst L i h) c d) e⟩
theorem rd_thing (A : At M H0 H L T) (i : Nat) (h : L[i]? = some (S, .lst [.int s])) (hs : Sd s) (q : ∀ s' v H', Sd s' → scalV v → At M H0 H' (L.set i (S, .lst [.int s'])) T → Q v H') : spThing [.ref S] H Q E :=
  ⟨S, s, rfl, A.in h, hs, fun s' v H' a b e g => q s' v H' a b (A.c1 i h e g)⟩
end
theorem cut_to (xs : List V) (i : Int) (h : 0 ≤ i) : cutV xs none (some i) = xs.take i.toNat := by
  obtain ⟨j, rfl⟩ := Int.eq_ofNat_of_zero_le h
  unfold cutV
  rw [HT.sIx_none, HT.sIx_nat, List.drop_zero, Nat.sub_zero]
  show xs.take (min j xs.length) = xs.take j
  rw [← List.take_eq_take_min]
/-- a dict of texts and values, as pairs -/
def dk (td : List (Str × V)) : List (Key × V) := td.map fun e => ((Sum.inr e.1 : Key), e.2)
theorem dk_keys (td : List (Str × V)) : (dk td).map (·.1) = (td.map (·.1)).map Sum.inr := by unfold dk; rw [List.map_map, List.map_map]; rfl
theorem valV_dk (td : List (Str × V)) (k : Str) : valV (dk td) (Sum.inr k) = (td.find? fun e => decide (e.1 = k)).map (·.2) := by
  induction td with
  | nil => rfl
  | cons e r ih =>
    show valV ((Sum.inr e.1, e.2) :: dk r) (Sum.inr k) = _
    by_cases h : e.1 = k
    · rw [valV_pos (by rw [h]), List.find?_cons_of_pos (by simpa using h)]; rfl
    · rw [valV_neg (fun q => h (Sum.inr.inj q)), ih, List.find?_cons_of_neg (by simpa using h)]
theorem valV_dk_some (td : List (Str × V)) (k : Str) : (valV (dk td) (Sum.inr k)).isSome = decide (k ∈ td.map (·.1)) := by
  rw [← valV_any]
  unfold dk
  induction td with
  | nil => rfl
  | cons e r ih =>
    rw [List.map_cons, List.any_cons, ih, List.map_cons]
    by_cases h : e.1 = k
    · rw [decide_eq_true (by rw [h]), Bool.true_or, decide_eq_true (by rw [h]; exact List.mem_cons_self)]
    · rw [decide_eq_false (fun q => h (Sum.inr.inj q)), Bool.false_or]
      exact decide_eq_decide.mpr ⟨List.mem_cons_of_mem _, fun q => (List.mem_cons.mp q).resolve_left fun z => h z.symm⟩
theorem merge_nodup : ∀ (td acc : List (Str × V)), ((acc ++ td).map (·.1)).Nodup → mergeK (dk acc) (dk td) = dk (acc ++ td)
  | [], acc, _ => by rw [List.append_nil]; rfl
  | e :: r, acc, h => by
    show mergeK (putK (dk acc) (Sum.inr e.1) e.2) (dk r) = _
    have hn : valV (dk acc) (Sum.inr e.1) = none := by
      rw [valV_dk]
      have : (acc.find? fun x => decide (x.1 = e.1)) = none := by
        rw [List.find?_eq_none]
        intro x hx
        rw [List.map_append, List.nodup_append] at h
        have := h.2.2 x.1 (List.mem_map_of_mem (f := Prod.fst) hx) e.1 (List.mem_map_of_mem (f := Prod.fst) List.mem_cons_self)
        simpa using this
      rw [this]; rfl
    rw [putK_new _ hn]
    have e1 : dk acc ++ [((Sum.inr e.1 : Key), e.2)] = dk (acc ++ [e]) := by unfold dk; rw [List.map_append]; rfl
    rw [e1, merge_nodup r (acc ++ [e]) (by rw [List.append_assoc]; exact h), List.append_assoc]; rfl
structure Things (ps : List Str) (td : List (Str × V)) : Prop where
  nd : (td.map (·.1)).Nodup
  sub : ∀ z ∈ td.map (·.1), z ∈ ps
  len : td.length ≤ 10
  sc : ∀ e ∈ td, scalV e.2
/-- a tuple of a text and a value at its address -/
def tE (x : Addr × (Str × V)) : Addr × HO := (x.1, .tup [.str x.2.1, x.2.2])
structure C2 (P : Program) (w : World) (K : PySem.W.Frag) (mg : Str → Option Value) (base : Heap) : Prop extends C1 P w K mg base where
  _law_turned : Cl P w K mg base 2 "_law_turned" (spTurned K)
  _law_thing : Cl P w K mg base 2 "_law_thing" spThing
def spThings (K : PySem.W.Frag) : Sp := fun vs H Q _ => ∃ (S a : Addr) (s : Int) (ps : List Str), vs = [.ref S, .ref a] ∧ H S = some (.lst [.int s]) ∧ Sd s ∧ SqL K H a (ps.map V.str) ∧ Pool ps ∧
  ∀ s' p td H', Sd s' → Things ps td → H p = none → H' p = some (.dK (dk td)) → Kp [S] H H' → H' S = some (.lst [.int s']) → Q (.ref p) H'
theorem ok__law_things {f : Addr} {fd : FuncData} (F : Fun K "_law_things" "_law_things" s_law_things f fd) (B : Blt mg) (C : C2 P w K mg base) : FnOk P w K mg base CX0 3 f fd P_law_things (spThings K) := by
  refine F.ok sc_law_things (fun vs H Q E h => by obtain ⟨S, a, s, ps, rfl, _⟩ := h; rfl) (fun cdv A outer s0 H vs Q E hr h => ?_)
  obtain ⟨S, a, s, ps, rfl, hS, hs, hZ, hp, q⟩ := h
  refine ⟨_, pss_cons (ps_set (i := 2) sc_law_things.nd rfl (Or.inl rfl) (pe_slice sl_list (pe_cl C._law_turned hr (by omega) (by rfl) (pa_cons (pv 0) (pa_cons (pe_slice sl_list (pv 1) po_none (po_some pe_int)) pa_nil))) po_none (po_some (pe_cl C._law_next hr (by omega) (by rfl) (pa_cons (pv 0) (pa_cons pe_int pa_nil))))))
  (pss_one (ps_ret (pe_callTy (call_dictP rfl) (by rfl) B.dict (by decide +kernel) (pa_cons (pe_lc (own := [("_law_name", 3)]) rfl sc_law_things.nd (pi_list (pv 2)) (blkOk_by (N := N_law_things) (sc := defScope s_law_things) (by decide +kernel)) (fun _ _ _ _ _ => (pg_name (i := 3) sc_law_things.nd rfl (Or.inl rfl))) (fun _ _ _ _ _ => pts_nil) (fun _ _ _ _ _ => (pe_tup (pa_cons (pv 3) (pa_cons (pe_cl C._law_thing hr (by omega) (by rfl) (pa_cons (pv 0) pa_nil)) pa_nil))))) pa_nil)))), ?_⟩
  have A := At.one hS
  walk_at "rd"
  refine rd_slL A hZ fun p1 H1 A1 => ?_
  rw [cut_to _ _ (by decide), show Int.toNat 10 = 10 from rfl, ← List.map_take] at A1
  walk_at "rd"
  have hok : ∀ z ∈ ps.take 10, PyData.strOk z = true := fun z hz => nameOk_ok (hp.ok z (List.mem_of_mem_take hz))
  have hl10 : (ps.take 10).length ≤ 10 := List.length_take_le _ _
  refine rd_turned A1 0 rfl hs (A1.lst 1 rfl) hok (by omega) fun s2 p2 ys H2 hs2 hperm A2 _ => ?_
  walk_at "rd"
  refine rd_next A2 0 rfl hs2 (by decide) fun s3 r H3 hs3 h0 h1 A3 => ?_
  walk_at "rd"
  refine rd_slL A3 (A3.lst 2 rfl) fun p4 H4 A4 => ?_
  rw [cut_to _ _ h0, ← List.map_take] at A4
  walk_at "rd"
  have nd : (ys.take r.toNat).Nodup := (hperm.nodup_iff.mpr (hp.nd.sublist (List.take_sublist _ _))).sublist (List.take_sublist _ _)
  have hys : ∀ z ∈ ys.take r.toNat, z ∈ ps := fun z hz => List.mem_of_mem_take (hperm.mem_iff.mp (List.mem_of_mem_take hz))
  have hyl : (ys.take r.toNat).length ≤ 10 := by
    have := List.length_take_le r.toNat ys
    have := hperm.length_eq
    rw [List.length_take]
    omega
  generalize ys.take r.toNat = names at *
  refine ⟨p4, rfl, ⟨_, A4.lst 3 rfl⟩, fun D hD => ?_⟩
  refine lc_it (walk_list (xs := names.map V.str)) (fun i H' => ∃ (s : Int) (te : List (Addr × (Str × V))), Sd s ∧ te.map (·.2.1) = names.take i ∧ (∀ x ∈ te, scalV x.2.2) ∧
    At [S] H H' [(S, .lst [.int s]), (p1, .lst ((ps.take 10).map V.str)), (p2, .lst (ys.map V.str)), (p4, .lst (names.map V.str)), (D, .lst (te.map fun x => V.ref x.1))] (te.map tE))
    ⟨s3, [], hs3, rfl, by simp, A4.snoc hD _⟩ (fun i H' _ ⟨_, _, _, _, _, A5⟩ => A5.lst 3 rfl) ?_ ?_
  · rintro i x H5 H5' hi ⟨s, te, hs, hte, hsc, A5⟩ ⟨rfl, hx⟩
    have hi' : i < names.length := by rw [List.length_map] at hi; exact hi
    have ex : x = .str names[i] := by
      rw [List.getElem?_map, List.getElem?_eq_getElem hi'] at hx
      exact (Option.some.inj hx).symm
    subst ex
    have htl : te.length = i := by
      have := congrArg List.length hte
      rw [List.length_map, List.length_take] at this
      omega
    refine ⟨rfl, ?_⟩
    walk_at "rd"
    refine rd_thing A5 0 rfl hs fun s' v H6 hs' hv A6 => ?_
    walk_at "rd"
    refine ⟨szl, fun t ht => ?_⟩
    have A7 := A6.snocT ht (.tup [.str names[i], v])
    have A8 := A7.set 4 rfl (.lst ((te.map fun x => V.ref x.1) ++ [.ref t]))
    refine ⟨_, A7.get 4 rfl, by rw [List.length_map]; exact szn' (by omega), s', te ++ [(t, (names[i], v))], hs', ?_, ?_, ?_⟩
    · rw [List.map_append, hte, List.take_add_one, List.getElem?_eq_getElem hi']; rfl
    · intro x hx
      rcases List.mem_append.mp hx with hx | hx
      · exact hsc x hx
      · rw [List.mem_singleton] at hx; subst hx; exact hv
    · rw [List.map_append, List.map_append]
      exact A8
  · rintro H5 ⟨s, te, hs, hte, hsc, A5⟩
    rw [List.length_map, List.take_length] at hte
    walk_at "rd"
    refine ⟨D, te.map (·.1), dk (te.map (·.2)), rfl, ?_, ?_, fun p hp => ?_⟩
    · rw [List.map_map]; exact A5.lst 4 rfl
    · rw [dk, List.map_map]
      exact paired_map fun x hx => .inl (.inl (A5.tm _ (List.mem_map_of_mem (f := tE) hx)))
    · have A6 := A5.snoc hp (.dK (mergeK [] (dk (te.map (·.2)))))
      have e1 : (te.map (·.2)).map (·.1) = names := by rw [List.map_map]; exact hte
      have em : mergeK [] (dk (te.map (·.2))) = dk (te.map (·.2)) := merge_nodup _ [] (by rw [List.nil_append, e1]; exact nd)
      rw [em] at A6 ⊢
      refine q s p (te.map (·.2)) _ hs ⟨by rw [e1]; exact nd, by rw [e1]; exact hys, ?_, ?_⟩ (A6.new0 5 rfl (by rw [List.mem_singleton]; exact A6.ne 5 0 rfl rfl (by decide))) (A6.get 5 rfl) A6.keep (A6.get 0 rfl)
      · have := congrArg List.length hte
        rw [List.length_map] at this ⊢
        omega
      · intro e he
        obtain ⟨x, hx, rfl⟩ := List.mem_map.mp he
        exact hsc x hx
end
end Nn

namespace Nn
open PySem PySem.Spec PyProof.Rows L2
local macro_rules | `(tactic| walk_at "rd1") => `(tactic| first
  | with_reducible refine' rd_c ?_
  | ((with_reducible refine' rd_var ?h ?_); (case h => rfl))
  | with_reducible refine' rd_op ?_
  | with_reducible refine' rd_I0 ?_
  | with_reducible refine' rd_seq ?_
  | ((with_reducible refine' rd_mod ?h ?_); (case h => decide))
  | ((with_reducible refine' rd_fdiv ?h ?_); (case h => exact ⟨by decide, by decide⟩))
  | ((with_reducible refine' rd_pow ?h ?_); (case h => exact ⟨by decide, by decide, by decide⟩))
  | ((with_reducible refine' rd_mul ?h ?_); (case h => first | exact Or.inl (by decide) | exact Or.inr (by decide)))
  | with_reducible refine' rd_set ?_
  | with_reducible refine' rd_asg ?_
  | with_reducible refine' rd_cons ?_
  | with_reducible refine' rd_nil ?_
  | with_reducible refine' rd_call ?_
  | with_reducible refine' rd_cb ?_
  | with_reducible refine' rd_if ?_
  | with_reducible refine' rd_test ?_
  | with_reducible refine' rd_B ?_
  | with_reducible refine' rd_bl ?_
  | ((with_reducible refine' rd_eq ?h ?_); (case h => rfl))
  | ((with_reducible refine' rd_ne ?h ?_); (case h => rfl))
  | with_reducible refine' rd_not ?_
  | with_reducible refine' rd_and ?_
  | with_reducible refine' rd_or ?_
  | with_reducible refine' rd_notV ?_
  | with_reducible refine' rd_chain ?_
  | with_reducible refine' rd_ret ?_
  | with_reducible refine' rd_drop ?_
  | with_reducible refine' rd_next' ?_
  | with_reducible refine' rd_lst ?_
  | with_reducible refine' rd_tup ?_
  | with_reducible refine' rd_lc ?_
  | with_reducible refine' rd_rng1 ?_
  | with_reducible refine' rd_istr ?_
  | with_reducible refine' rd_ilst ?_
  | with_reducible refine' rd_ienum ?_
  | with_reducible refine' rd_bm0 ?_
  | with_reducible refine' rd_bm ?_
  | with_reducible refine' rd_m1 ?_
  | with_reducible refine' rd_sl ?_
  | with_reducible refine' rd_po0 ?_
  | with_reducible refine' rd_po1 ?_
  | with_reducible refine' rd_in ?_
  | with_reducible refine' rd_sub ?_
  | with_reducible refine' rd_ifE ?_
  | with_reducible refine' rd_un ?_
  | with_reducible refine' rd_U ?_
  | with_reducible refine' rd_brk ?_
  | with_reducible refine' rd_cont ?_
  | with_reducible refine' rd_yes ?_
  | with_reducible refine' rd_T ?_
  | with_reducible refine' rd_F ?_
  | with_reducible refine' rd_nT ?_
  | with_reducible refine' rd_nF ?_
  | with_reducible refine' rd_dni ?_
  | with_reducible refine' rd_di ?_
  | with_reducible refine' rd_dget ?_
  | with_reducible refine' rd_dget1 ?_
  | with_reducible refine' rd_dget2 ?_
  | with_reducible refine' rd_dget2N ?_
  | with_reducible refine' rd_dpop1 ?_
  | with_reducible refine' rd_ddel ?_
  | with_reducible refine' rd_mkN ?_
  | with_reducible refine' rd_mkV ?_
  | with_reducible refine' rd_dput ?_
  | with_reducible refine' rd_dnew ?_
  | with_reducible refine' rd_ikeys ?_
  | with_reducible refine' rd_gn ?_
  | with_reducible refine' rd_for ?_
  | with_reducible refine' rd_make ?_
  | with_reducible refine' rd_meth ?_
  | with_reducible refine' rd_fld ?_
  | with_reducible refine' rd_sfld ?_
  | with_reducible refine' rd_dc ?_
  | with_reducible refine' rd_items ?_
  | with_reducible refine' rd_sadd ?_
  | with_reducible refine' rd_ivals ?_
  | with_reducible refine' rd_callS ?_
  | with_reducible refine' rd_makeS ?_
  | with_reducible refine' rd_methS ?_
  | with_reducible refine' rd_fldH ?_
  | with_reducible refine' rd_mkO ?_)
local macro_rules | `(tactic| walk_at "sub") => `(tactic| repeat' (first | exact List.nil_sublist _ | exact List.Sublist.refl _ | apply List.Sublist.cons₂ | apply List.Sublist.cons))
local macro_rules | `(tactic| walk_at "rd") => `(tactic| repeat walk_at "rd1")

section
variable {P : Program} {w : World} {K : PySem.W.Frag} {mg : Str → Option Value} {base : Heap}
/-! ### pairs -/
/-- a tuple of an old and a new name at its address -/
def tP (x : Addr × (Str × Option Str)) : Addr × HO := (x.1, .tup [.str x.2.1, ov x.2.2])
structure Pairs (ps : List Str) (td : List (Str × V)) (prs : List (Str × Option Str)) : Prop where
  oldsNd : (prs.map (·.1)).Nodup
  newsNd : (prs.filterMap (·.2)).Nodup
  olds : ∀ z ∈ prs.map (·.1), z ∈ td.map (·.1)
  news : ∀ z ∈ prs.filterMap (·.2), z ∈ ps ∧ (z ∈ td.map (·.1) → z ∈ prs.map (·.1))
  len : prs.length ≤ 10
theorem Kp.strs' {N : List Addr} {a : Addr} {H H' : Hp} {zs : List Str} (k : Kp N H H') (hN : ∀ b ∈ N, ∃ o, H b = some o ∧ (∀ zs : List Str, o ≠ .lst (zs.map V.str)) ∧ ∀ ob u, o ≠ .frz ob u) (h : SqL K H a (zs.map V.str)) : SqL K H' a (zs.map V.str) := by
  rcases h with (h | ⟨o, h⟩) | h
  · refine .inl (.inl (k _ _ h fun hn => ?_))
    obtain ⟨o, e, n1, _⟩ := hN a hn
    rw [h] at e
    exact n1 zs (Option.some.inj e).symm
  · refine .inl (.inr ⟨o, k _ _ h fun hn => ?_⟩)
    obtain ⟨o', e, _, n2⟩ := hN a hn
    rw [h] at e
    exact n2 _ _ (Option.some.inj e).symm
  · exact .inr h
theorem st_no (s : Int) : (∀ zs : List Str, HO.lst [V.int s] ≠ .lst (zs.map V.str)) ∧ ∀ ob u, HO.lst [V.int s] ≠ .frz ob u := ⟨fun zs e => strs_ne zs s (HO.lst.inj e).symm, fun _ _ e => by cases e⟩
theorem dk_no (kvs : List (Key × V)) : (∀ zs : List Str, HO.dK kvs ≠ .lst (zs.map V.str)) ∧ ∀ ob u, HO.dK kvs ≠ .frz ob u := ⟨fun _ e => (by cases e), fun _ _ e => (by cases e)⟩
def spPairs (K : PySem.W.Frag) : Sp := fun vs H Q _ => ∃ (S a d : Addr) (s : Int) (ps : List Str) (td : List (Str × V)), vs = [.ref S, .ref a, .ref d] ∧ H S = some (.lst [.int s]) ∧ Sd s ∧ SqL K H a (ps.map V.str) ∧ H d = some (.dK (dk td)) ∧ Pool ps ∧ Things ps td ∧
  ∀ s' p (te : List (Addr × (Str × Option Str))) H', Sd s' → Pairs ps td (te.map (·.2)) → H p = none → H' p = some (.lst (te.map fun x => V.ref x.1)) → (∀ x ∈ te.map tP, H x.1 = none ∧ H' x.1 = some x.2) → Kp [S] H H' → H' S = some (.lst [.int s']) → Q (.ref p) H'
theorem ok__law_pairs {f : Addr} {fd : FuncData} (F : Fun K "_law_pairs" "_law_pairs" s_law_pairs f fd) (B : Blt mg) (C : C2 P w K mg base) : FnOk P w K mg base CX0 3 f fd P_law_pairs (spPairs K) := by
  refine F.ok sc_law_pairs (fun vs H Q E h => by obtain ⟨S, a, d, s, ps, td, rfl, _⟩ := h; rfl) (fun cdv A outer s0 H vs Q E hr h => ?_)
  obtain ⟨S, a, d, s, ps, td, rfl, hS, hs, hZ, hd, hp, ht, q⟩ := h
  refine ⟨_, pss_cons (ps_lock (ps_setLc (i := 3) (own := [("_law_name", 7)]) rfl sc_law_pairs.nd rfl rfl (sw_true rfl rfl rfl (by decide +kernel)) (pi_keys (pv 2)) (blkOk_by (N := N_law_pairs) (sc := defScope s_law_pairs) (by decide +kernel)) (fun _ _ _ _ _ => (pg_name (i := 7) sc_law_pairs.nd rfl (Or.inl rfl))) (fun _ _ _ _ _ => pts_one (pt_cmpR op_gt (pe_cl C._law_next hr (by omega) (by rfl) (pa_cons (pv 0) (pa_cons pe_int pa_nil))) pe_int (nomark _))) (fun _ _ _ _ _ => (pv 7))))
  (pss_cons (ps_setLc (i := 4) (own := [("_law_name", 7)]) rfl sc_law_pairs.nd rfl rfl (sw_true rfl rfl rfl (by decide +kernel)) (pi_list (pe_slice sl_list (pv 1) po_none (po_some pe_int))) (blkOk_by (N := N_law_pairs) (sc := defScope s_law_pairs) (by decide +kernel)) (fun _ _ _ _ _ => (pg_name (i := 7) sc_law_pairs.nd rfl (Or.inl rfl))) (fun _ _ _ _ _ => pts_one (pt_cmp (pc_dnotin (hu_of hr) (pv 7) (pv 2)))) (fun _ _ _ _ _ => (pv 7)))
  (pss_cons (ps_set (i := 5) sc_law_pairs.nd rfl (Or.inl rfl) (pe_op op_cat (pv 3) (pe_slice sl_list (pv 4) po_none (po_some (pe_op op_mul (pe_callB call_len_seq (by rfl) B.len (by decide +kernel) (pa_cons (pv 4) pa_nil)) (pe_callTy call_int1 (by rfl) B.int (by decide +kernel) (pa_cons (pe_cmpR op_gt (pe_cl C._law_next hr (by omega) (by rfl) (pa_cons (pv 0) (pa_cons pe_int pa_nil))) pe_int (nomark _)) pa_nil)))))))
  (pss_cons (ps_set (i := 5) sc_law_pairs.nd rfl (Or.inl rfl) (pe_cl C._law_turned hr (by omega) (by rfl) (pa_cons (pv 0) (pa_cons (pv 5) pa_nil))))
  (pss_cons (ps_set (i := 6) sc_law_pairs.nd rfl (Or.inl rfl) (pe_lst pa_nil))
  (pss_cons (ps_for PassesOwn.never rfl (pi_list (pe_cl C._law_turned hr (by omega) (by rfl) (pa_cons (pv 0) (pa_cons (pv 3) pa_nil)))) (pg_name (i := 7) sc_law_pairs.nd rfl (Or.inl rfl))
   (pss_one (ps_expr (pe_bm PySem.F.plainAttrs_list PySem.F.slot_list_append PySem.F.type_list_append mt_append (pv 6) (pa_cons (pe_tup (pa_cons (pv 7) (pa_cons (pe_bm0 PySem.F.plainAttrs_list PySem.F.slot_list_pop PySem.F.type_list_pop mt_pop (pv 5)) pa_nil))) pa_nil)))))
  (Evl.pss_cut (ps_if (pt_cmpR op_eq (pe_cl C._law_next hr (by omega) (by rfl) (pa_cons (pv 0) (pa_cons pe_int pa_nil))) pe_int (nomark _)) (pss_one (ps_setLc (i := 6) (own := [("_law_old", 8), ("_law_new", 9)]) rfl sc_law_pairs.nd rfl rfl (sw_true rfl rfl rfl (by decide +kernel)) (pi_list (pv 6)) (blkOk_by (N := N_law_pairs) (sc := defScope s_law_pairs) (by decide +kernel)) (fun _ _ _ _ _ => (pg_tup' (n := 2) (K := K) rfl rfl (pgs_cons (pg_name (i := 8) sc_law_pairs.nd rfl (Or.inl rfl)) (pgs_cons (pg_name (i := 9) sc_law_pairs.nd rfl (Or.inl rfl)) pgs_nil)))) (fun _ _ _ _ _ => pts_nil) (fun _ _ _ _ _ => (pe_tup (pa_cons (pv 8) (pa_cons (pe_ix (ix_list' (K := K) rfl) (pe_lst (pa_cons (pv 9) (pa_cons pe_non pa_nil))) (pe_callTy call_int1 (by rfl) B.int (by decide +kernel) (pa_cons (pe_cmpR op_eq (pe_cl C._law_next hr (by omega) (by rfl) (pa_cons (pv 0) (pa_cons pe_int pa_nil))) pe_int (nomark _)) pa_nil)) (fun _ _ => rfl)) pa_nil))))))
   (pss_nil))
  (pss_one (ps_ret (pv 6))))))))), ?_⟩
  have hne : S ≠ d := ne_of hS hd (by intro e; cases e)
  have A := At.two hS hd hne
  walk_at "rd"
  -- movers
  refine rd_lock hd trivial fun od => ?_
  have A1 := A.set 1 rfl (.frz od (.dK (dk td)))
  walk_at "rd"
  refine ⟨d, od, rfl, .inl ⟨dk td, A1.get 1 rfl, fun D hD => ?_⟩⟩
  refine lc_it walk_keys (fun i H' => ∃ (s : Int) (mv : List Str), Sd s ∧ mv.Sublist ((td.map (·.1)).take i) ∧ At [S, d] H H' [(S, .lst [.int s]), (d, .frz od (.dK (dk td))), (D, .lst (mv.map V.str))] [])
    ⟨s, [], hs, List.nil_sublist _, A1.snoc hD _⟩ (fun i H' _ ⟨_, _, _, _, A5⟩ => A5.get 1 rfl) ?_ ?_
  · rintro i x H5 H5' hi ⟨s, mv, hs, hmv, A5⟩ ⟨rfl, k, v, hk, rfl⟩
    have hi' : i < td.length := by unfold dk at hi; rw [List.length_map] at hi; exact hi
    have ek : k = .inr td[i].1 := by
      unfold dk at hk
      rw [List.getElem?_map, List.getElem?_eq_getElem hi'] at hk
      exact (Prod.mk.inj (Option.some.inj hk)).1.symm
    subst ek
    have ets : (td.map (·.1)).take (i + 1) = (td.map (·.1)).take i ++ [td[i].1] := by
      rw [List.take_add_one, List.getElem?_map, List.getElem?_eq_getElem hi']; rfl
    refine ⟨rfl, ?_⟩
    walk_at "rd"
    refine rd_next A5 0 rfl hs (by decide) fun s' r H6 hs' h0 h1 A6 => ?_
    walk_at "rd"
    refine rd_ite (fun _ => ?_) (fun _ => ?_)
    · walk_at "rd"
      have A7 := A6.set 2 rfl (.lst (mv.map V.str ++ [.str td[i].1]))
      refine ⟨_, A6.get 2 rfl, by rw [List.length_map]; have := hmv.length_le; rw [List.length_take, List.length_map] at this; have := ht.len; exact szn' (by omega), s', mv ++ [td[i].1], hs', ?_, ?_⟩
      · rw [ets]; exact hmv.append (List.Sublist.refl _)
      · rw [List.map_append]; exact A7
    · exact ⟨s', mv, hs', by rw [ets]; exact hmv.trans (List.sublist_append_left _ _), A6⟩
  rintro H5 ⟨s1, mv, hs1, hmv, A5⟩
  refine ⟨A5.get 1 rfl, ?_⟩
  refine A5.s1 1 rfl fun H6 A6 => ?_
  clear A1 A hD
  have hmv : mv.Sublist (td.map (·.1)) := by unfold dk at hmv; rw [List.length_map, ← List.length_map (f := fun e : Str × V => e.1), List.take_length] at hmv; exact hmv
  have hZ' : ∀ {H' : Hp}, Kp [S, d] H H' → SqL K H' a (ps.map V.str) := fun k => k.strs' (by
    intro b hb
    simp only [List.mem_cons, List.not_mem_nil, or_false] at hb
    rcases hb with rfl | rfl
    · exact ⟨_, hS, st_no s⟩
    · exact ⟨_, hd, dk_no _⟩) hZ
  walk_at "rd"
  -- free
  refine rd_slL A6 (hZ' A6.keep) fun pF H7 A7 => ?_
  rw [cut_to _ _ (by decide), show Int.toNat 12 = 12 from rfl, ← List.map_take] at A7
  refine ⟨pF, rfl, ⟨_, A7.lst 3 rfl⟩, fun D2 hD2 => ?_⟩
  refine lc_it (walk_list (xs := (ps.take 12).map V.str)) (fun i H' => ∃ (fr : List Str), fr.Sublist ((ps.take 12).take i) ∧ (∀ z ∈ fr, z ∉ td.map (·.1)) ∧
      At [S, d] H H' [(S, .lst [.int s1]), (d, .dK (dk td)), (D, .lst (mv.map V.str)), (pF, .lst ((ps.take 12).map V.str)), (D2, .lst (fr.map V.str))] [])
    ⟨[], List.nil_sublist _, by simp, A7.snoc hD2 _⟩ (fun i H' _ ⟨_, _, _, A5⟩ => A5.lst 3 rfl) ?_ ?_
  · rintro i x H8 H8' hi ⟨fr, hfr, hno, A8⟩ ⟨rfl, hx⟩
    have hi' : i < (ps.take 12).length := by rw [List.length_map] at hi; exact hi
    have ex : x = .str (ps.take 12)[i] := by
      rw [List.getElem?_map, List.getElem?_eq_getElem hi'] at hx
      exact (Option.some.inj hx).symm
    subst ex
    have ets : (ps.take 12).take (i + 1) = (ps.take 12).take i ++ [(ps.take 12)[i]] := by
      rw [List.take_add_one, List.getElem?_eq_getElem hi']; rfl
    refine ⟨rfl, ?_⟩
    walk_at "rd"
    refine ⟨d, _, rfl, DGet.k (k := Sum.inr (ps.take 12)[i]) (A8.get 1 rfl), rd_bl ?_⟩
    rw [valV_dk_some]
    refine rd_iteN (fun hnm => ?_) (fun hm => ?_)
    · walk_at "rd"
      have A9 := A8.set 4 rfl (.lst (fr.map V.str ++ [.str (ps.take 12)[i]]))
      refine ⟨_, A8.get 4 rfl, by rw [List.length_map]; have := hfr.length_le; rw [List.length_take] at this; have := List.length_take_le 12 ps; exact szn' (by omega), fr ++ [(ps.take 12)[i]], ?_, ?_, ?_⟩
      · rw [ets]; exact hfr.append (List.Sublist.refl _)
      · intro z hz
        rcases List.mem_append.mp hz with hz | hz
        · exact hno z hz
        · rw [List.mem_singleton] at hz; exact hz ▸ hnm
      · rw [List.map_append]; exact A9
    · exact ⟨fr, by rw [ets]; exact hfr.trans (List.sublist_append_left _ _), hno, A8⟩
  rintro H8 ⟨fr, hfr, hno, A8⟩
  have hfr : fr.Sublist ps := by rw [List.length_map, List.take_length] at hfr; exact hfr.trans (List.take_sublist _ _)
  clear A7 A6 A5 hD2
  have hfl : fr.length ≤ 14 := by have := hfr.length_le; rw [hp.len] at this; exact this
  have hml : mv.length ≤ 10 := by have := hmv.length_le; rw [List.length_map] at this; have := ht.len; omega
  walk_at "rd"
  -- some
  refine ⟨_, _, rfl, .inl (A8.lst 4 rfl), ?_⟩
  rw [List.length_map]
  walk_at "rd"
  refine rd_next A8 0 rfl hs1 (by decide) fun s2 r2 H9 hs2 h0 h1 A9 => ?_
  walk_at "rd"
  refine .inr ⟨_, rfl, ?_⟩
  refine rd_mul (Or.inl ⟨by omega, by omega⟩) ?_
  walk_at "rd"
  have hb : 0 ≤ (fr.length : Int) * (if decide (0 < r2) = true then 1 else 0) := by split <;> omega
  generalize (fr.length : Int) * (if decide (0 < r2) = true then 1 else 0) = hi at *
  refine rd_slL A9 (A9.lst 4 rfl) fun pS H10 A10 => ?_
  rw [cut_to _ _ hb, ← List.map_take] at A10
  refine ⟨D, pS, _, _, rfl, rfl, A10.get 2 rfl, A10.get 5 rfl, ?_, fun p6 hp6 => ?_⟩
  · rw [List.length_map, List.length_map, List.length_take]; exact szn (by omega)
  rw [← List.map_append]
  refine A10.u1 hp6 fun H11 A11 => ?_
  have hfs : (fr.take hi.toNat).Sublist ps := (List.take_sublist _ _).trans hfr
  have hsl : (mv ++ fr.take hi.toNat).length ≤ 24 := by rw [List.length_append]; have := hfs.length_le; rw [hp.len] at this; omega
  have hsnd : (mv ++ fr.take hi.toNat).Nodup := by
    rw [List.nodup_append]
    refine ⟨ht.nd.sublist hmv, hp.nd.sublist hfs, fun z hz y hy e => ?_⟩
    exact hno y (List.mem_of_mem_take hy) (e ▸ hmv.subset hz)
  have hsps : ∀ z ∈ mv ++ fr.take hi.toNat, z ∈ ps := fun z hz => by
    rcases List.mem_append.mp hz with hz | hz
    · exact ht.sub z (hmv.subset hz)
    · exact hfs.subset hz
  have hsk : ∀ z ∈ mv ++ fr.take hi.toNat, z ∈ td.map (·.1) → z ∈ mv := fun z hz hk => by
    rcases List.mem_append.mp hz with hz | hz
    · exact hz
    · exact absurd hk (hno z (List.mem_of_mem_take hz))
  have hsmv : mv.length ≤ (mv ++ fr.take hi.toNat).length := by rw [List.length_append]; omega
  generalize mv ++ fr.take hi.toNat = sm at *
  walk_at "rd"
  refine rd_turned A11 0 rfl hs2 (A11.lst 6 rfl) (fun z hz => nameOk_ok (hp.ok z (hsps z hz))) (by omega) fun s3 p7 sm' H12 hs3 hpm A12 _ => ?_
  walk_at "rd"
  refine ⟨szl, fun p8 hp8 => A12.u1 hp8 fun H13 A13 => ?_⟩
  walk_at "rd"
  refine rd_turned A13 0 rfl hs3 (A13.lst 2 rfl) (fun z hz => nameOk_ok (hp.ok z (ht.sub z (hmv.subset hz)))) (by omega) fun s4 p9 ys H14 hs4 hpy A14 _ => ?_
  clear A8 A9 A10 A11 A12 A13
  refine ⟨p9, rfl, ⟨_, A14.lst 9 rfl⟩, ?_⟩
  have hyl : ys.length = mv.length := hpy.length_eq
  have hsml : sm'.length = sm.length := hpm.length_eq
  refine forI (walk_list (xs := ys.map V.str)) (fun i σ H' => ∃ (te : List (Addr × (Str × Option Str))) (pop rest : List Str) (y7 y8 y9 : Option V),
      σ = [some (.ref S), some (.ref a), some (.ref d), some (.ref D), some (.ref D2), some (.ref p7), some (.ref p8), y7, y8, y9] ∧ te.map (·.2.1) = ys.take i ∧ te.map (·.2.2) = pop.map some ∧ rest ++ pop.reverse = sm' ∧
      At [S, d] H H' [(S, .lst [.int s4]), (d, .dK (dk td)), (p7, .lst (rest.map V.str)), (p8, .lst (te.map fun x => V.ref x.1)), (p9, .lst (ys.map V.str))] (te.map tP))
    ⟨[], [], sm', none, none, none, rfl, rfl, rfl, by simp, A14.sel (by simp) (by walk_at "sub")⟩ (fun i σ H' _ ⟨_, _, _, _, _, _, _, _, _, _, A⟩ => A.lst 4 rfl) ?_ ?_
  · rintro i x σ H15 H15' hi ⟨te, pop, rest, y7, y8, y9, rfl, h1, h2, h3, A15⟩ ⟨rfl, hx⟩
    have hi' : i < ys.length := by rw [List.length_map] at hi; exact hi
    have ex : x = .str ys[i] := by
      rw [List.getElem?_map, List.getElem?_eq_getElem hi'] at hx
      exact (Option.some.inj hx).symm
    subst ex
    have htl : te.length = i := by
      have := congrArg List.length h1
      rw [List.length_map, List.length_take] at this
      omega
    have hpl : pop.length = i := by
      have := congrArg List.length h2
      rw [List.length_map, List.length_map] at this
      omega
    have hrl : rest.length + pop.length = sm'.length := by rw [← h3, List.length_append, List.length_reverse]
    obtain ⟨r0, z, rfl⟩ : ∃ r0 z, rest = r0 ++ [z] := by
      rcases List.eq_nil_or_concat rest with e | ⟨r0, z, e⟩
      · subst e; rw [List.length_nil] at hrl; omega
      · exact ⟨r0, z, by rw [e, List.concat_eq_append]⟩
    walk_at "rd"
    refine ⟨.inl ⟨rfl, _, A15.lst 3 rfl⟩, ?_⟩
    walk_at "rd"
    refine ⟨.inl ⟨rfl, _, A15.lst 2 rfl⟩, ?_⟩
    refine ⟨p7, (r0 ++ [z]).map V.str, .str z, rfl, rfl, A15.get 2 rfl, ?_, ?_⟩
    · rw [List.map_append, List.length_append]
      show (r0.map V.str ++ [.str z])[(r0.map V.str).length + 1 - 1]? = _
      rw [Nat.add_sub_cancel, List.getElem?_append_right (Nat.le_refl _), Nat.sub_self]; rfl
    rw [List.map_append, show (r0.map V.str ++ [z].map V.str).dropLast = r0.map V.str from List.dropLast_concat]
    refine A15.s2 2 rfl fun H16 A16 => ?_
    walk_at "rd"
    refine ⟨szl, fun t ht => A16.t2 ht fun H17 A17 => ?_⟩
    walk_at "rd"
    refine ⟨p8, _, _, rfl, rfl, A17.get 3 rfl, by rw [List.length_map]; exact szn' (by omega), ?_⟩
    have A18 := A17.set 3 rfl (.lst ((te.map fun x => V.ref x.1) ++ [.ref t]))
    refine ⟨te ++ [(t, (ys[i], some z))], pop ++ [z], r0, _, _, _, rfl, ?_, ?_, ?_, ?_⟩
    · rw [List.map_append, h1, List.take_add_one, List.getElem?_eq_getElem hi']; rfl
    · rw [List.map_append, h2, List.map_append]; rfl
    · rw [List.reverse_append, ← h3, List.append_assoc]; rfl
    · rw [List.map_append, List.map_append]; exact A18
  · rintro σ H15 ⟨te, pop, rest, y7, y8, y9, rfl, h1, h2, h3, A15⟩
    rw [List.length_map, List.take_length] at h1
    have hpn : pop.Nodup := by
      have h : (rest ++ pop.reverse).Nodup := by rw [h3]; exact hpm.nodup_iff.mpr hsnd
      rw [List.nodup_append] at h
      exact (List.reverse_perm pop).nodup_iff.mp h.2.1
    have hps : ∀ z ∈ pop, z ∈ sm := fun z hz => hpm.mem_iff.mp (by rw [← h3]; exact List.mem_append_right _ (List.mem_reverse.mpr hz))
    have fm : te.filterMap (fun x => x.2.2) = pop := by
      rw [show te.filterMap (fun x => x.2.2) = (te.map (·.2.2)).filterMap id by rw [List.filterMap_map]; rfl, h2, List.filterMap_map]
      exact List.filterMap_some
    have hfst : (te.map (·.2)).map (·.1) = ys := by rw [List.map_map]; exact h1
    have hfm : (te.map (·.2)).filterMap (·.2) = pop := by rw [List.filterMap_map]; exact fm
    have htl : te.length = mv.length := by have := congrArg List.length h1; rw [List.length_map] at this; omega
    have hP : Pairs ps td (te.map (·.2)) := by
      refine ⟨by rw [hfst]; exact hpy.nodup_iff.mpr (ht.nd.sublist hmv), by rw [hfm]; exact hpn, ?_, ?_, by rw [List.length_map]; omega⟩
      · rw [hfst]; exact fun z hz => hmv.subset (hpy.mem_iff.mp hz)
      · rw [hfm, hfst]; exact fun z hz => ⟨hsps z (hps z hz), fun hk => hpy.mem_iff.mpr (hsk z (hps z hz) hk)⟩
    refine rd_cut (fun σ' H' => ∃ (s : Int) (te : List (Addr × (Str × Option Str))) (D3 : Addr) (y7 y8 y9 : Option V), Sd s ∧ Pairs ps td (te.map (·.2)) ∧
      σ' = [some (.ref S), some (.ref a), some (.ref d), some (.ref D), some (.ref D2), some (.ref p7), some (.ref D3), y7, y8, y9] ∧ At [S, d] H H' [(S, .lst [.int s]), (d, .dK (dk td)), (D3, .lst (te.map fun x => V.ref x.1))] (te.map tP)) ?_ ?_
    · walk_at "rd"
      refine rd_next A15 0 rfl hs4 (by decide) fun s5 r5 H16 hs5 _ _ A16 => ?_
      walk_at "rd"
      refine rd_ite (fun _ => ?_) (fun _ => ?_)
      · walk_at "rd"
        refine ⟨p8, rfl, ⟨_, A16.lst 3 rfl⟩, fun D4 hD4 => ?_⟩
        refine lc_it (walk_list (xs := te.map fun x => V.ref x.1)) (fun i H' => ∃ (s : Int) (te' : List (Addr × (Str × Option Str))), Sd s ∧ te'.map (·.2.1) = ys.take i ∧ (te'.filterMap (·.2.2)).Sublist (pop.take i) ∧
          At [S, d] H H' [(S, .lst [.int s]), (d, .dK (dk td)), (p8, .lst (te.map fun x => V.ref x.1)), (D4, .lst (te'.map fun x => V.ref x.1))] (te.map tP ++ te'.map tP))
          ⟨s5, [], hs5, rfl, List.nil_sublist _, ((A16.snoc hD4 (.lst [])).sel (by simp) (by walk_at "sub")).selT _ (by simp)⟩ (fun i H' _ ⟨_, _, _, _, _, A5⟩ => A5.lst 2 rfl) ?_ ?_
        · rintro i x H17 H17' hi ⟨s, te', hs, g1, g2, A17⟩ ⟨rfl, hx⟩
          have hi' : i < te.length := by rw [List.length_map] at hi; exact hi
          have ex : x = .ref te[i].1 := by
            rw [List.getElem?_map, List.getElem?_eq_getElem hi'] at hx
            exact (Option.some.inj hx).symm
          subst ex
          have hi2 : i < pop.length := by have := congrArg List.length h2; rw [List.length_map, List.length_map] at this; omega
          have hi3 : i < ys.length := by omega
          have e2 : te[i].2.2 = some pop[i] := by
            have := congrArg (·[i]?) h2
            simp only [List.getElem?_map, List.getElem?_eq_getElem hi', List.getElem?_eq_getElem hi2, Option.map_some] at this
            exact Option.some.inj this
          have e1 : te[i].2.1 = ys[i] := by
            have := congrArg (·[i]?) h1
            simp only [List.getElem?_map, List.getElem?_eq_getElem hi', List.getElem?_eq_getElem hi3, Option.map_some] at this
            exact Option.some.inj this
          have tm := A17.tm _ (List.mem_append_left _ (List.mem_map_of_mem (f := tP) (List.getElem_mem hi')))
          have htl' : te'.length = i := by have := congrArg List.length g1; rw [List.length_map, List.length_take] at this; omega
          refine ⟨te[i].1, _, rfl, .inl (.inl tm), rfl, _, _, rfl, _, _, rfl, rfl, rfl, ?_⟩
          walk_at "rd"
          refine ⟨szl, fun q1 hq1 => A17.u2 hq1 fun H18 A18 => ?_⟩
          walk_at "rd"
          refine rd_next A18 0 rfl hs (by decide) fun s6 r6 H19 hs6 _ _ A19 => ?_
          walk_at "rd"
          refine .inr ⟨_, rfl, ?_⟩
          have fin : ∀ o : Option Str, (o = none ∨ o = some pop[i]) → ∃ acc, H19 D4 = some (.lst acc) ∧ True := fun _ _ => ⟨_, A19.get 3 rfl, trivial⟩
          have hpt : pop.take (i + 1) = pop.take i ++ [pop[i]] := by rw [List.take_add_one, List.getElem?_eq_getElem hi2]; rfl
          have key : ∀ o : Option Str, (o = none ∨ o = some pop[i]) → ∀ t, H19 t = none → ∃ acc, (upd H19 t (.tup [.str te[i].2.1, ov o])) D4 = some (.lst acc) ∧ acc.length < sizeLine ∧
              ∃ (s : Int) (te' : List (Addr × (Str × Option Str))), Sd s ∧ te'.map (·.2.1) = ys.take (i + 1) ∧ (te'.filterMap (·.2.2)).Sublist (pop.take (i + 1)) ∧
          At [S, d] H (upd (upd H19 t (.tup [.str te[i].2.1, ov o])) D4 (.lst (acc ++ [.ref t]))) [(S, .lst [.int s]), (d, .dK (dk td)), (p8, .lst (te.map fun x => V.ref x.1)), (D4, .lst (te'.map fun x => V.ref x.1))] (te.map tP ++ te'.map tP) := by
            intro o ho t ht
            have A20 := A19.snocT ht (.tup [.str te[i].2.1, ov o])
            have A21 := A20.set 3 rfl (.lst ((te'.map fun x => V.ref x.1) ++ [.ref t]))
            refine ⟨_, A20.get 3 rfl, by rw [List.length_map]; exact szn' (by omega), s6, te' ++ [(t, (te[i].2.1, o))], hs6, ?_, ?_, ?_⟩
            · rw [List.map_append, g1, e1, List.take_add_one, List.getElem?_eq_getElem hi3]; rfl
            · rw [List.filterMap_append, hpt]
              rcases ho with rfl | rfl
              · rw [show List.filterMap (fun x : Addr × (Str × Option Str) => x.2.2) [(t, (te[i].2.1, none))] = [] from rfl, List.append_nil]
                exact g2.trans (List.sublist_append_left _ _)
              · exact g2.append (List.Sublist.refl _)
            · rw [List.map_append, List.map_append, ← List.append_assoc]
              exact A21.sel (by simp) (by walk_at "sub")
          by_cases hc : r6 = 0
          · rw [decide_eq_true (by rw [hc])]
            refine rd_ixL (A19.lst 4 rfl) (v := .non) (by rfl) ?_
            walk_at "rd"
            refine ⟨szl, fun t ht => ?_⟩
            exact key none (.inl rfl) t ht
          · rw [decide_eq_false (fun e => hc (V.int.inj e))]
            refine rd_ixL (A19.lst 4 rfl) (v := ov te[i].2.2) (by rfl) ?_
            walk_at "rd"
            refine ⟨szl, fun t ht => ?_⟩
            rw [e2]
            exact key (some pop[i]) (.inr rfl) t ht
        · rintro H17 ⟨s, te', hs, g1, g2, A17⟩
          have hpl : pop.length = te.length := by have := congrArg List.length h2; rw [List.length_map, List.length_map] at this; omega
          have hyl2 : ys.length = te.length := by have := congrArg List.length h1; rw [List.length_map] at this; omega
          rw [List.length_map, ← hyl2, List.take_length] at g1
          rw [List.length_map, ← hpl, List.take_length] at g2
          have hfst' : (te'.map (·.2)).map (·.1) = ys := by rw [List.map_map]; exact g1
          have hfm' : (te'.map (·.2)).filterMap (·.2) = te'.filterMap (·.2.2) := by rw [List.filterMap_map]; rfl
          have hP' : Pairs ps td (te'.map (·.2)) := by
            refine ⟨by rw [hfst']; exact hpy.nodup_iff.mpr (ht.nd.sublist hmv), by rw [hfm']; exact hpn.sublist g2, ?_, ?_, by have := congrArg List.length g1; rw [List.length_map] at this ⊢; omega⟩
            · rw [hfst']; exact fun z hz => hmv.subset (hpy.mem_iff.mp hz)
            · rw [hfm', hfst']; exact fun z hz => ⟨hsps z (hps z (g2.subset hz)), fun hk => hpy.mem_iff.mpr (hsk z (hps z (g2.subset hz)) hk)⟩
          exact ⟨s, te', D4, y7, y8, y9, hs, hP', rfl, (A17.sel (by simp) (by walk_at "sub")).selT _ (fun x hx => List.mem_append_right _ hx)⟩
      · walk_at "rd"
        exact ⟨s5, te, p8, y7, y8, y9, hs5, hP, rfl, A16.sel (by simp) (by walk_at "sub")⟩
    · rintro σ H16 ⟨s, te, D3, y7, y8, y9, hs, hP, rfl, A16⟩
      walk_at "rd"
      refine q s D3 te H16 hs hP (A16.new0 2 rfl ?_) (A16.get 2 rfl) (fun x hx => ⟨A16.tn x hx, A16.tm x hx⟩) (fun b o hb hn => ?_) (A16.get 0 rfl)
      · intro hm
        simp only [List.mem_cons, List.not_mem_nil, or_false] at hm
        rcases hm with e | e
        · exact A16.ne 2 0 rfl rfl (by decide) e
        · exact A16.ne 2 1 rfl rfl (by decide) e
      · by_cases e : b = d
        · subst e
          rw [hd] at hb
          cases hb
          exact A16.get 1 rfl
        · exact A16.base b o hb (by simp only [List.mem_cons, List.not_mem_nil, or_false, not_or] at hn ⊢; exact ⟨hn, e⟩)
end
end Nn

namespace Nn
open PySem PySem.Spec PyProof.Rows L2
local macro_rules | `(tactic| walk_at "rd1") => `(tactic| first
  | with_reducible refine' rd_c ?_
  | ((with_reducible refine' rd_var ?h ?_); (case h => rfl))
  | with_reducible refine' rd_op ?_
  | with_reducible refine' rd_I0 ?_
  | with_reducible refine' rd_seq ?_
  | ((with_reducible refine' rd_mod ?h ?_); (case h => decide))
  | ((with_reducible refine' rd_fdiv ?h ?_); (case h => exact ⟨by decide, by decide⟩))
  | ((with_reducible refine' rd_pow ?h ?_); (case h => exact ⟨by decide, by decide, by decide⟩))
  | ((with_reducible refine' rd_mul ?h ?_); (case h => first | exact Or.inl (by decide) | exact Or.inr (by decide)))
  | with_reducible refine' rd_set ?_
  | with_reducible refine' rd_asg ?_
  | with_reducible refine' rd_cons ?_
  | with_reducible refine' rd_nil ?_
  | with_reducible refine' rd_call ?_
  | with_reducible refine' rd_cb ?_
  | with_reducible refine' rd_if ?_
  | with_reducible refine' rd_test ?_
  | with_reducible refine' rd_B ?_
  | with_reducible refine' rd_bl ?_
  | ((with_reducible refine' rd_eq ?h ?_); (case h => rfl))
  | ((with_reducible refine' rd_ne ?h ?_); (case h => rfl))
  | with_reducible refine' rd_not ?_
  | with_reducible refine' rd_and ?_
  | with_reducible refine' rd_or ?_
  | with_reducible refine' rd_notV ?_
  | with_reducible refine' rd_chain ?_
  | with_reducible refine' rd_ret ?_
  | with_reducible refine' rd_drop ?_
  | with_reducible refine' rd_next' ?_
  | with_reducible refine' rd_lst ?_
  | with_reducible refine' rd_tup ?_
  | with_reducible refine' rd_lc ?_
  | with_reducible refine' rd_rng1 ?_
  | with_reducible refine' rd_istr ?_
  | with_reducible refine' rd_ilst ?_
  | with_reducible refine' rd_ienum ?_
  | with_reducible refine' rd_bm0 ?_
  | with_reducible refine' rd_bm ?_
  | with_reducible refine' rd_m1 ?_
  | with_reducible refine' rd_sl ?_
  | with_reducible refine' rd_po0 ?_
  | with_reducible refine' rd_po1 ?_
  | with_reducible refine' rd_in ?_
  | with_reducible refine' rd_sub ?_
  | with_reducible refine' rd_ifE ?_
  | with_reducible refine' rd_un ?_
  | with_reducible refine' rd_U ?_
  | with_reducible refine' rd_brk ?_
  | with_reducible refine' rd_cont ?_
  | with_reducible refine' rd_yes ?_
  | with_reducible refine' rd_T ?_
  | with_reducible refine' rd_F ?_
  | with_reducible refine' rd_nT ?_
  | with_reducible refine' rd_nF ?_
  | with_reducible refine' rd_dni ?_
  | with_reducible refine' rd_di ?_
  | with_reducible refine' rd_dget ?_
  | with_reducible refine' rd_dget1 ?_
  | with_reducible refine' rd_dget2 ?_
  | with_reducible refine' rd_dget2N ?_
  | with_reducible refine' rd_dpop1 ?_
  | with_reducible refine' rd_ddel ?_
  | with_reducible refine' rd_mkN ?_
  | with_reducible refine' rd_mkV ?_
  | with_reducible refine' rd_dput ?_
  | with_reducible refine' rd_dnew ?_
  | with_reducible refine' rd_ikeys ?_
  | with_reducible refine' rd_gn ?_
  | with_reducible refine' rd_for ?_
  | with_reducible refine' rd_make ?_
  | with_reducible refine' rd_meth ?_
  | with_reducible refine' rd_fld ?_
  | with_reducible refine' rd_sfld ?_
  | with_reducible refine' rd_dc ?_
  | with_reducible refine' rd_items ?_
  | with_reducible refine' rd_sadd ?_
  | with_reducible refine' rd_ivals ?_
  | with_reducible refine' rd_callS ?_
  | with_reducible refine' rd_makeS ?_
  | with_reducible refine' rd_methS ?_
  | with_reducible refine' rd_fldH ?_
  | with_reducible refine' rd_mkO ?_)
local macro_rules | `(tactic| walk_at "sub") => `(tactic| repeat' (first | exact List.nil_sublist _ | exact List.Sublist.refl _ | apply List.Sublist.cons₂ | apply List.Sublist.cons))
local macro_rules | `(tactic| walk_at "rd") => `(tactic| repeat walk_at "rd1")

/-! ### plans: the data -/
def dko (prs : List (Str × Option Str)) : List (Key × V) := dk (prs.map fun e => (e.1, ov e.2))
theorem dko_keys (prs : List (Str × Option Str)) : (dko prs).map (·.1) = (prs.map (·.1)).map Sum.inr := by unfold dko; rw [dk_keys, List.map_map, List.map_map, List.map_map]; rfl
theorem dko_len (prs : List (Str × Option Str)) : (dko prs).length = prs.length := by unfold dko dk; rw [List.length_map, List.length_map]
theorem valV_dko (prs : List (Str × Option Str)) (k : Str) : valV (dko prs) (Sum.inr k) = (prs.find? fun e => decide (e.1 = k)).map fun e => ov e.2 := by
  induction prs with
  | nil => rfl
  | cons e r ih =>
    show valV ((Sum.inr e.1, ov e.2) :: dko r) (Sum.inr k) = _
    by_cases h : e.1 = k
    · rw [valV_pos (by rw [h]), List.find?_cons_of_pos (by simpa using h)]; rfl
    · rw [valV_neg (fun q => h (Sum.inr.inj q)), ih, List.find?_cons_of_neg (by simpa using h)]
theorem valV_dko_some (prs : List (Str × Option Str)) (k : Str) : (valV (dko prs) (Sum.inr k)).isSome = decide (k ∈ prs.map (·.1)) := by
  unfold dko
  rw [valV_dk_some, List.map_map]; rfl
theorem putK_dko {prs : List (Str × Option Str)} {z : Str} (o : Option Str) (h : z ∉ prs.map (·.1)) : putK (dko prs) (Sum.inr z) (ov o) = dko (prs ++ [(z, o)]) := by
  have hn : valV (dko prs) (Sum.inr z) = none := by
    have := valV_dko_some prs z
    rw [decide_eq_false h] at this
    exact Option.not_isSome_iff_eq_none.mp (by rw [this]; decide)
  rw [putK_new _ hn]
  unfold dko dk
  rw [List.map_append, List.map_append]; rfl
theorem find_mem {prs : List (Str × Option Str)} (nd : (prs.map (·.1)).Nodup) {e : Str × Option Str} (he : e ∈ prs) : prs.find? (fun x => decide (x.1 = e.1)) = some e := by
  induction prs with
  | nil => cases he
  | cons x r ih =>
    rw [List.map_cons, List.nodup_cons] at nd
    rcases List.mem_cons.mp he with h | h
    · subst h; exact List.find?_cons_of_pos (by simp)
    · rw [List.find?_cons_of_neg, ih nd.2 h]
      intro q
      exact nd.1 (of_decide_eq_true q ▸ List.mem_map_of_mem (f := Prod.fst) h)
/-- where a plan leads an old name (none: let go, or no old name) -/
def toOf (prs : List (Str × Option Str)) (z : Str) : Option Str := ((prs.find? fun e => decide (e.1 = z)).map (·.2)).getD none
theorem toOf_mem {prs : List (Str × Option Str)} (nd : (prs.map (·.1)).Nodup) {e : Str × Option Str} (he : e ∈ prs) : toOf prs e.1 = e.2 := by unfold toOf; rw [find_mem nd he]; rfl
structure Good (prs : List (Str × Option Str)) : Prop where
  old : ∀ e ∈ prs, nameOk e.1 = true
  new : ∀ e ∈ prs, ∀ z, e.2 = some z → nameOk z = true
  oldsNd : (prs.map (·.1)).Nodup
  newsNd : (prs.filterMap (·.2)).Nodup
  len : prs.length < 64
theorem sorted_perm {prs : List (Str × Option Str)} (nd : (prs.map (·.1)).Nodup) {ys : List Str} (h : ys.Perm (prs.map (·.1))) : (ys.map fun z => (z, toOf prs z)).Perm prs := by
  refine (h.map _).trans ?_
  rw [List.map_map]
  have e : prs.map ((fun z => (z, toOf prs z)) ∘ fun x => x.1) = prs := by
    conv => rhs; rw [← List.map_id prs]
    refine List.map_congr_left fun x hx => ?_
    show (x.1, toOf prs x.1) = x
    rw [toOf_mem nd hx]
  rw [e]
structure PlanC (K : PySem.W.Frag) (C : Addr) : Prop where
  cl : Cls K C
  nl : NoAttr K C "_leads"
end Nn

namespace Nn
open PySem PySem.Spec PyProof.Rows L2
local macro_rules | `(tactic| walk_at "rd1") => `(tactic| first
  | with_reducible refine' rd_c ?_
  | ((with_reducible refine' rd_var ?h ?_); (case h => rfl))
  | with_reducible refine' rd_op ?_
  | with_reducible refine' rd_I0 ?_
  | with_reducible refine' rd_seq ?_
  | ((with_reducible refine' rd_mod ?h ?_); (case h => decide))
  | ((with_reducible refine' rd_fdiv ?h ?_); (case h => exact ⟨by decide, by decide⟩))
  | ((with_reducible refine' rd_pow ?h ?_); (case h => exact ⟨by decide, by decide, by decide⟩))
  | ((with_reducible refine' rd_mul ?h ?_); (case h => first | exact Or.inl (by decide) | exact Or.inr (by decide)))
  | with_reducible refine' rd_set ?_
  | with_reducible refine' rd_asg ?_
  | with_reducible refine' rd_cons ?_
  | with_reducible refine' rd_nil ?_
  | with_reducible refine' rd_call ?_
  | with_reducible refine' rd_cb ?_
  | with_reducible refine' rd_if ?_
  | with_reducible refine' rd_test ?_
  | with_reducible refine' rd_B ?_
  | with_reducible refine' rd_bl ?_
  | ((with_reducible refine' rd_eq ?h ?_); (case h => rfl))
  | ((with_reducible refine' rd_ne ?h ?_); (case h => rfl))
  | with_reducible refine' rd_not ?_
  | with_reducible refine' rd_and ?_
  | with_reducible refine' rd_or ?_
  | with_reducible refine' rd_notV ?_
  | with_reducible refine' rd_chain ?_
  | with_reducible refine' rd_ret ?_
  | with_reducible refine' rd_drop ?_
  | with_reducible refine' rd_next' ?_
  | with_reducible refine' rd_lst ?_
  | with_reducible refine' rd_tup ?_
  | with_reducible refine' rd_lc ?_
  | with_reducible refine' rd_rng1 ?_
  | with_reducible refine' rd_istr ?_
  | with_reducible refine' rd_ilst ?_
  | with_reducible refine' rd_ienum ?_
  | with_reducible refine' rd_bm0 ?_
  | with_reducible refine' rd_bm ?_
  | with_reducible refine' rd_m1 ?_
  | with_reducible refine' rd_sl ?_
  | with_reducible refine' rd_po0 ?_
  | with_reducible refine' rd_po1 ?_
  | with_reducible refine' rd_in ?_
  | with_reducible refine' rd_sub ?_
  | with_reducible refine' rd_ifE ?_
  | with_reducible refine' rd_un ?_
  | with_reducible refine' rd_U ?_
  | with_reducible refine' rd_brk ?_
  | with_reducible refine' rd_cont ?_
  | with_reducible refine' rd_yes ?_
  | with_reducible refine' rd_T ?_
  | with_reducible refine' rd_F ?_
  | with_reducible refine' rd_nT ?_
  | with_reducible refine' rd_nF ?_
  | with_reducible refine' rd_dni ?_
  | with_reducible refine' rd_di ?_
  | with_reducible refine' rd_dget ?_
  | with_reducible refine' rd_dget1 ?_
  | with_reducible refine' rd_dget2 ?_
  | with_reducible refine' rd_dget2N ?_
  | with_reducible refine' rd_dpop1 ?_
  | with_reducible refine' rd_ddel ?_
  | with_reducible refine' rd_mkN ?_
  | with_reducible refine' rd_mkV ?_
  | with_reducible refine' rd_dput ?_
  | with_reducible refine' rd_dnew ?_
  | with_reducible refine' rd_ikeys ?_
  | with_reducible refine' rd_gn ?_
  | with_reducible refine' rd_for ?_
  | with_reducible refine' rd_make ?_
  | with_reducible refine' rd_meth ?_
  | with_reducible refine' rd_fld ?_
  | with_reducible refine' rd_sfld ?_
  | with_reducible refine' rd_dc ?_
  | with_reducible refine' rd_items ?_
  | with_reducible refine' rd_sadd ?_
  | with_reducible refine' rd_ivals ?_
  | with_reducible refine' rd_callS ?_
  | with_reducible refine' rd_makeS ?_
  | with_reducible refine' rd_methS ?_
  | with_reducible refine' rd_fldH ?_
  | with_reducible refine' rd_mkO ?_)
local macro_rules | `(tactic| walk_at "sub") => `(tactic| repeat' (first | exact List.nil_sublist _ | exact List.Sublist.refl _ | apply List.Sublist.cons₂ | apply List.Sublist.cons))
local macro_rules | `(tactic| walk_at "rd") => `(tactic| repeat walk_at "rd1")

section
variable {P : Program} {w : World} {K : PySem.W.Frag} {mg : Str → Option Value} {base : Heap}
structure CCheck (P : Program) (w : World) (K : PySem.W.Frag) (mg : Str → Option Value) (base : Heap) : Prop where
  is_name : Cl P w K mg base 1 "is_name" (spIsName K)
def spCheck : Sp := fun vs H Q _ => ∃ z : Str, vs = [.str z] ∧ nameOk z = true ∧ ∀ H', Kp [] H H' → Q .non H'
theorem ok_check_name {f : Addr} {fd : FuncData} (F : Fun K "check_name" "check_name" scheck_name f fd) (C : CCheck P w K mg base) : FnOk P w K mg base CX0 2 f fd Pcheck_name spCheck := by
  refine F.ok sccheck_name (fun vs H Q E h => by obtain ⟨z, rfl, _⟩ := h; rfl) (fun cdv A outer s0 H vs Q E hr h => ?_)
  obtain ⟨z, rfl, hz, q⟩ := h
  refine ⟨_, pss_one (ps_if (pt_not (pt_val (pe_cl C.is_name hr (by omega) (by rfl) (pa_cons (pv 0) pa_nil)))) (pss_one ps_never)
   (pss_nil)), ?_⟩
  have A := At.nil H
  walk_at "rd"
  refine rd_name A (by have := nameOk_len hz; omega) fun H1 A1 => ?_
  rw [hz]
  walk_at "rd"
  exact q H1 A1.keep
structure CPlan (P : Program) (w : World) (K : PySem.W.Frag) (mg : Str → Option Value) (base : Heap) : Prop where
  check_name : Cl P w K mg base 2 "check_name" spCheck
def spInit (C : Addr) : Sp := fun vs H Q _ => ∃ (pl a dx : Addr) (te : List (Addr × (Str × Option Str))), vs = [.ref pl, .ref a] ∧ H pl = some (.ins C dx []) ∧ H a = some (.lst (te.map fun x => V.ref x.1)) ∧ (∀ x ∈ te.map tP, H x.1 = some x.2) ∧ Good (te.map (·.2)) ∧
  ∀ H' d lv, lv.Perm (te.map (·.2)) → sortedS (lv.map (·.1)) = true → H d = none → Kp [pl] H H' → H' pl = some (.ins C dx [("_leads", .ref d)]) → H' d = some (.dK (dko lv)) → Q .non H'
theorem ok_Plan___init__ {f : Addr} {fd : FuncData} (F : Fun K "__init__" "Plan.__init__" sPlan___init__ f fd) (B : Blt mg) (C : CPlan P w K mg base) {Cp : Addr} (T : PlanC K Cp) : FnOk P w K mg base CX0 3 f fd PPlan___init__ (spInit Cp) := by
  refine F.ok scPlan___init__ (fun vs H Q E h => by obtain ⟨pl, a, dx, te, rfl, _⟩ := h; rfl) (fun cdv A outer s0 H vs Q E hr h => ?_)
  obtain ⟨pl, a, dx, te, rfl, hpl, ha, hte, hg, q⟩ := h
  refine ⟨_, pss_cons (ps_set (i := 2) scPlan___init__.nd rfl (Or.inr rfl) pe_dnewK)
  (pss_cons (ps_set (i := 3) scPlan___init__.nd rfl (Or.inl rfl) (pe_callTy0 cr_set0K (by rfl) B.set (by decide +kernel)))
  (pss_cons (ps_for PassesOwn.never rfl (pi_list (pv 1)) (pg_tup rfl (pgs_cons (pg_name (i := 4) scPlan___init__.nd rfl (Or.inl rfl)) (pgs_cons (pg_name (i := 5) scPlan___init__.nd rfl (Or.inl rfl)) pgs_nil)))
   (pss_cons (ps_expr (pe_cl C.check_name hr (by omega) (by rfl) (pa_cons (pv 4) pa_nil)))
  (Evl.pss_cut (ps_if (pt_cmpR op_notN (pv 5) pe_non (nomark _)) (pss_one (ps_expr (pe_cl C.check_name hr (by omega) (by rfl) (pa_cons (pv 5) pa_nil))))
   (pss_nil))
  (pss_cons (ps_if (pt_cmp (pc_din (hu_of hr) (pv 4) (pv 2))) (pss_one ps_never)
   (pss_nil))
  (pss_cons (ps_if (pt_cmpR or_inO (pv 5) (pv 3) (by rfl)) (pss_one ps_never)
   (pss_nil))
  (pss_cons (ps_dput (hu_of hr) (pv 2) (pv 4) (pv 5) rfl)
  (pss_one (ps_if (pt_cmpR op_notN (pv 5) pe_non (nomark _)) (pss_one (ps_expr (pe_saddK (pv 3) (pa_cons (pv 5) pa_nil))))
   (pss_nil)))))))))
  (pss_one (ps_fld (pv 0) (pe_dc (own := [("old", 4)]) rfl scPlan___init__.nd (pi_list (pe_callB (call_sortedD rfl) (by rfl) B.sorted (by decide +kernel) (pa_cons (pv 2) pa_nil))) (blkOk_by (N := NPlan___init__) (sc := defScope sPlan___init__) (by decide +kernel)) (fun _ _ _ _ _ => (pg_name (i := 4) scPlan___init__.nd rfl (Or.inl rfl))) (fun _ _ _ _ _ => pts_nil) (fun _ _ _ _ _ => (pv 4)) (fun _ _ _ _ _ => (pe_dget (hu_of hr) (pv 2) (pv 4) (fun _ _ => rfl)))) rfl)))), ?_⟩
  have A := At.one hpl
  walk_at "rd"
  refine fun d hd => A.u1 hd fun H1 A1 => ?_
  walk_at "rd"
  refine ⟨rfl, fun p hp => A1.u1 hp fun H2 A2 => ?_⟩
  have nea : a ∉ [pl] := fun hn => by rw [List.mem_singleton] at hn; subst hn; rw [hpl] at ha; cases ha
  have tup : ∀ {H'} {i : Nat} (hi : i < te.length), Kp [pl] H H' → H' te[i].1 = some (.tup [.str te[i].2.1, ov te[i].2.2]) := fun {H' i} hi k => by
    have h := hte _ (List.mem_map_of_mem (f := tP) (List.getElem_mem hi))
    refine k _ _ h fun hn => ?_
    rw [List.mem_singleton] at hn
    have h : H te[i].1 = some (.tup [.str te[i].2.1, ov te[i].2.2]) := h
    rw [hn, hpl] at h
    cases h
  walk_at "rd"
  refine ⟨a, rfl, ⟨_, .inl (.inl (A2.base _ _ ha nea))⟩, ?_⟩
  refine forI (walk_list (xs := te.map fun x => V.ref x.1)) (fun i σ H' => ∃ (y4 y5 : Option V) (S : Key → Bool) (n : Nat), σ = [some (.ref pl), some (.ref a), some (.ref d), some (.ref p), y4, y5] ∧ (∀ z, S (.inr z) = decide (z ∈ ((te.map (·.2)).take i).filterMap (·.2))) ∧ n ≤ i ∧
      At [pl] H H' [(pl, .ins Cp dx []), (d, .dK (dko ((te.map (·.2)).take i))), (p, SetK P w p S n)] [])
    ⟨none, none, _, 0, rfl, by intro z; rfl, Nat.le_refl _, A2⟩ (fun i σ H' _ ⟨_, _, _, _, _, _, _, A⟩ => .inl (.inl (A.base _ _ ha nea))) ?_ ?_
  · rintro i x σ H3 H3' hi ⟨y4, y5, S, n, rfl, hS, hn, A3⟩ ⟨rfl, hx⟩
    have hi' : i < te.length := by rw [List.length_map] at hi; exact hi
    have ex : x = .ref te[i].1 := by
      rw [List.getElem?_map, List.getElem?_eq_getElem hi'] at hx
      exact (Option.some.inj hx).symm
    subst ex
    have hz : nameOk te[i].2.1 = true := hg.old _ (List.mem_map_of_mem (f := fun x : Addr × (Str × Option Str) => x.2) (List.getElem_mem hi'))
    have hnew : ∀ z, te[i].2.2 = some z → nameOk z = true := hg.new _ (List.mem_map_of_mem (f := fun x : Addr × (Str × Option Str) => x.2) (List.getElem_mem hi'))
    have hi2 : i < (te.map (·.2)).length := by rw [List.length_map]; exact hi'
    have hat : (te.map (·.2))[i]? = some te[i].2 := by rw [List.getElem?_map, List.getElem?_eq_getElem hi']; rfl
    have htk : (te.map (·.2)).take (i + 1) = (te.map (·.2)).take i ++ [te[i].2] := by rw [List.take_add_one, hat]; rfl
    have hsplit : te.map (·.2) = (te.map (·.2)).take i ++ (te[i].2 :: (te.map (·.2)).drop (i + 1)) := by
      rw [show te[i].2 = (te.map (·.2))[i] from (List.getElem_map _).symm, List.getElem_cons_drop hi2, List.take_append_drop]
    have hfresh : te[i].2.1 ∉ ((te.map (·.2)).take i).map (·.1) := by
      have nd := hg.oldsNd
      rw [hsplit, List.map_append, List.nodup_append] at nd
      exact fun hm => nd.2.2 _ hm te[i].2.1 (by rw [List.map_cons]; exact List.mem_cons_self) rfl
    have hfreshN : ∀ z, te[i].2.2 = some z → z ∉ ((te.map (·.2)).take i).filterMap (·.2) := fun z e hm => by
      have nd := hg.newsNd
      rw [hsplit, List.filterMap_append, List.nodup_append] at nd
      exact nd.2.2 _ hm z (by rw [List.filterMap_cons_some e]; exact List.mem_cons_self) rfl
    have tu := tup hi' A3.keep
    generalize hold : te[i].2.1 = old at *
    generalize hnw : te[i].2.2 = new at *
    have hpr : te[i].2 = (old, new) := by rw [← hold, ← hnw]
    refine ⟨te[i].1, _, rfl, .inl (.inl tu), rfl, _, _, rfl, _, _, rfl, rfl, ?_⟩
    walk_at "rd"
    refine ⟨_, rfl, hz, fun H4 k4 => ?_⟩
    have A4 := A3.c0 k4
    walk_at "rd"
    refine rd_cut (fun σ' H' => σ' = [some (.ref pl), some (.ref a), some (.ref d), some (.ref p), some (.str old), some (ov new)] ∧ At [pl] H H' [(pl, .ins Cp dx []), (d, .dK (dko ((te.map (·.2)).take i))), (p, SetK P w p S n)] []) ?_ ?_
    · walk_at "rd"
      refine ⟨rfl, rd_bl ?_⟩
      cases new with
      | none =>
        refine rd_iteN (fun h => absurd rfl h) (fun _ => ?_)
        walk_at "rd"
        exact ⟨rfl, A4⟩
      | some z =>
        refine rd_iteN (fun _ => ?_) (fun h => by cases h)
        walk_at "rd"
        refine ⟨_, rfl, hnew z rfl, fun H5 k5 => ?_⟩
        exact ⟨rfl, A4.c0 k5⟩
    rintro σ H5 ⟨rfl, A5⟩
    walk_at "rd"
    refine ⟨_, _, rfl, DGet.k (k := Sum.inr old) (A5.get 1 rfl), rd_bl ?_⟩
    rw [valV_dko_some, decide_eq_false hfresh]
    walk_at "rd"
    have hin : inO S new = false := by
      cases new with
      | none => rfl
      | some z => show S (.inr z) = false; rw [hS, decide_eq_false (hfreshN z rfl)]
    refine ⟨new, _, S, n, rfl, rfl, A5.get 2 rfl, rd_bl ?_⟩
    rw [hin]
    walk_at "rd"
    refine ⟨_, _, rfl, DPut.k (k := Sum.inr old) (A5.get 1 rfl) (by rw [dko_len, List.length_take]; have := hg.len; rw [List.length_map] at *; exact szn' (by omega)), ?_⟩
    rw [putK_dko new hfresh, ← hpr, ← htk]
    refine A5.s1 1 rfl fun H6 A6 => ?_
    walk_at "rd"
    refine ⟨rfl, rd_bl ?_⟩
    cases new with
    | none =>
      refine rd_iteN (fun h => absurd rfl h) (fun _ => ?_)
      walk_at "rd"
      refine ⟨_, _, S, n, rfl, ?_, by omega, A6⟩
      intro z
      rw [hS, htk, List.filterMap_append, hpr, show List.filterMap (fun x : Str × Option Str => x.2) [(old, none)] = [] from rfl, List.append_nil]
    | some z =>
      refine rd_iteN (fun _ => ?_) (fun h => by cases h)
      walk_at "rd"
      refine ⟨⟨_, S, n, rfl, A6.get 2 rfl⟩, ?_⟩
      walk_at "rd"
      refine ⟨_, .inr z, S, n, rfl, rfl, A6.get 2 rfl, ?_, ?_⟩
      · have := hg.len; rw [List.length_map] at this; show n + 1 < scanBound; unfold scanBound; omega
      have A7 := A6.set 2 rfl (SetK P w p (fun j => S j || decide (j = .inr z)) (if S (.inr z) = true then n else n + 1))
      refine ⟨_, _, _, _, rfl, ?_, ?_, A7⟩
      · intro y
        rw [hS, htk, List.filterMap_append, hpr, show List.filterMap (fun x : Str × Option Str => x.2) [(old, some z)] = [z] from rfl, ← Bool.decide_or]
        refine decide_eq_decide.mpr ?_
        rw [List.mem_append, List.mem_singleton]
        exact ⟨fun h => h.imp_right Sum.inr.inj, fun h => h.imp_right (congrArg _)⟩
      · split <;> omega
  · rintro σ H3 ⟨y4, y5, S, n, rfl, hS, hn, A3⟩
    rw [List.length_map, ← List.length_map (f := fun x : Addr × (Str × Option Str) => x.2), List.take_length] at A3
    walk_at "rd"
    refine ⟨d, _, (te.map (·.2)).map (·.1), rfl, .inl (A3.get 1 rfl), dko_keys _, by rw [List.length_map]; exact hg.len, fun ys p2 hys hso hp2 => ?_⟩
    have A4 := A3.snoc hp2 (.lst (ys.map V.str))
    revert A4
    generalize upd H3 p2 (.lst (ys.map V.str)) = H4
    intro A4
    refine ⟨p2, rfl, ⟨_, A4.lst 3 rfl⟩, fun D hD => ?_⟩
    have nd := hg.oldsNd
    have hperm := sorted_perm nd hys
    have ynd : ys.Nodup := hys.nodup_iff.mpr nd
    refine dc_it (walk_list (xs := ys.map V.str)) (fun i H' => At [pl] H H' [(pl, .ins Cp dx []), (d, .dK (dko (te.map (·.2)))), (p, SetK P w p S n), (p2, .lst (ys.map V.str)), (D, .dK (dko ((ys.take i).map fun z => (z, toOf (te.map (·.2)) z))))] [])
      (A4.snoc hD _) (fun i H' _ A => A.lst 3 rfl) ?_ ?_
    · rintro i x H5 H5' hi A5 ⟨rfl, hx⟩
      have hi' : i < ys.length := by rw [List.length_map] at hi; exact hi
      have ex : x = .str ys[i] := by
        rw [List.getElem?_map, List.getElem?_eq_getElem hi'] at hx
        exact (Option.some.inj hx).symm
      subst ex
      have htk : ys.take (i + 1) = ys.take i ++ [ys[i]] := by rw [List.take_add_one, List.getElem?_eq_getElem hi']; rfl
      have hsplit : ys = ys.take i ++ (ys[i] :: ys.drop (i + 1)) := by rw [List.getElem_cons_drop hi', List.take_append_drop]
      have hfr : ys[i] ∉ ((ys.take i).map fun z => (z, toOf (te.map (·.2)) z)).map (·.1) := by
        rw [List.map_map, show ((fun x : Str × Option Str => x.1) ∘ fun z => (z, toOf (te.map (·.2)) z)) = id from rfl, List.map_id]
        have h := ynd
        rw [hsplit, List.nodup_append] at h
        exact fun hm => h.2.2 _ hm ys[i] List.mem_cons_self rfl
      have hm : ys[i] ∈ (te.map (·.2)).map (·.1) := hys.mem_iff.mp (List.getElem_mem hi')
      obtain ⟨e, he, ee⟩ := List.mem_map.mp hm
      have hv : valV (dko (te.map (·.2))) (Sum.inr ys[i]) = some (ov (toOf (te.map (·.2)) ys[i])) := by
        rw [valV_dko, ← ee, find_mem nd he, toOf_mem nd he]; rfl
      refine ⟨rfl, ?_⟩
      walk_at "rd"
      refine ⟨d, ov (toOf (te.map (·.2)) ys[i]), rfl, ?_, ?_⟩
      · rw [← hv]; exact DGet.k (k := Sum.inr ys[i]) (A5.get 1 rfl)
      refine ⟨_, .inr ys[i], rfl, A5.get 4 rfl, ?_, ?_⟩
      · rw [dko_len, List.length_map, List.length_take]; have := hys.length_eq; rw [List.length_map] at this; have := hg.len; exact szn' (by omega)
      rw [putK_dko _ hfr]
      rw [htk, List.map_append]
      exact A5.set 4 rfl _
    · intro H5 A5
      rw [List.length_map, List.take_length] at A5
      walk_at "rd"
      refine ⟨pl, Cp, dx, [], rfl, A5.get 0 rfl, T.cl, T.nl, by decide, ?_⟩
      have A6 := A5.set 0 rfl (.ins Cp dx [("_leads", .ref D)])
      refine q _ D _ hperm ?_ (A6.new0 4 rfl (by rw [List.mem_singleton]; exact A6.ne 4 0 rfl rfl (by decide))) A6.keep (A6.get 0 rfl) (A6.get 4 rfl)
      rw [List.map_map, show ((fun x : Str × Option Str => x.1) ∘ fun z => (z, toOf (te.map (·.2)) z)) = id from rfl, List.map_id]
      exact hso
end
end Nn

namespace Nn
open PySem PySem.Spec PyProof.Rows L2
local macro_rules | `(tactic| walk_at "rd1") => `(tactic| first
  | with_reducible refine' rd_c ?_
  | ((with_reducible refine' rd_var ?h ?_); (case h => rfl))
  | with_reducible refine' rd_op ?_
  | with_reducible refine' rd_I0 ?_
  | with_reducible refine' rd_seq ?_
  | ((with_reducible refine' rd_mod ?h ?_); (case h => decide))
  | ((with_reducible refine' rd_fdiv ?h ?_); (case h => exact ⟨by decide, by decide⟩))
  | ((with_reducible refine' rd_pow ?h ?_); (case h => exact ⟨by decide, by decide, by decide⟩))
  | ((with_reducible refine' rd_mul ?h ?_); (case h => first | exact Or.inl (by decide) | exact Or.inr (by decide)))
  | with_reducible refine' rd_set ?_
  | with_reducible refine' rd_asg ?_
  | with_reducible refine' rd_cons ?_
  | with_reducible refine' rd_nil ?_
  | with_reducible refine' rd_call ?_
  | with_reducible refine' rd_cb ?_
  | with_reducible refine' rd_if ?_
  | with_reducible refine' rd_test ?_
  | with_reducible refine' rd_B ?_
  | with_reducible refine' rd_bl ?_
  | ((with_reducible refine' rd_eq ?h ?_); (case h => rfl))
  | ((with_reducible refine' rd_ne ?h ?_); (case h => rfl))
  | with_reducible refine' rd_not ?_
  | with_reducible refine' rd_and ?_
  | with_reducible refine' rd_or ?_
  | with_reducible refine' rd_notV ?_
  | with_reducible refine' rd_chain ?_
  | with_reducible refine' rd_ret ?_
  | with_reducible refine' rd_drop ?_
  | with_reducible refine' rd_next' ?_
  | with_reducible refine' rd_lst ?_
  | with_reducible refine' rd_tup ?_
  | with_reducible refine' rd_lc ?_
  | with_reducible refine' rd_rng1 ?_
  | with_reducible refine' rd_istr ?_
  | with_reducible refine' rd_ilst ?_
  | with_reducible refine' rd_ienum ?_
  | with_reducible refine' rd_bm0 ?_
  | with_reducible refine' rd_bm ?_
  | with_reducible refine' rd_m1 ?_
  | with_reducible refine' rd_sl ?_
  | with_reducible refine' rd_po0 ?_
  | with_reducible refine' rd_po1 ?_
  | with_reducible refine' rd_in ?_
  | with_reducible refine' rd_sub ?_
  | with_reducible refine' rd_ifE ?_
  | with_reducible refine' rd_un ?_
  | with_reducible refine' rd_U ?_
  | with_reducible refine' rd_brk ?_
  | with_reducible refine' rd_cont ?_
  | with_reducible refine' rd_yes ?_
  | with_reducible refine' rd_T ?_
  | with_reducible refine' rd_F ?_
  | with_reducible refine' rd_nT ?_
  | with_reducible refine' rd_nF ?_
  | with_reducible refine' rd_dni ?_
  | with_reducible refine' rd_di ?_
  | with_reducible refine' rd_dget ?_
  | with_reducible refine' rd_dget1 ?_
  | with_reducible refine' rd_dget2 ?_
  | with_reducible refine' rd_dget2N ?_
  | with_reducible refine' rd_dpop1 ?_
  | with_reducible refine' rd_ddel ?_
  | with_reducible refine' rd_mkN ?_
  | with_reducible refine' rd_mkV ?_
  | with_reducible refine' rd_dput ?_
  | with_reducible refine' rd_dnew ?_
  | with_reducible refine' rd_ikeys ?_
  | with_reducible refine' rd_gn ?_
  | with_reducible refine' rd_for ?_
  | with_reducible refine' rd_make ?_
  | with_reducible refine' rd_meth ?_
  | with_reducible refine' rd_fld ?_
  | with_reducible refine' rd_sfld ?_
  | with_reducible refine' rd_dc ?_
  | with_reducible refine' rd_items ?_
  | with_reducible refine' rd_sadd ?_
  | with_reducible refine' rd_ivals ?_
  | with_reducible refine' rd_callS ?_
  | with_reducible refine' rd_makeS ?_
  | with_reducible refine' rd_methS ?_
  | with_reducible refine' rd_fldH ?_
  | with_reducible refine' rd_mkO ?_)
local macro_rules | `(tactic| walk_at "sub") => `(tactic| repeat' (first | exact List.nil_sublist _ | exact List.Sublist.refl _ | apply List.Sublist.cons₂ | apply List.Sublist.cons))
local macro_rules | `(tactic| walk_at "rd") => `(tactic| repeat walk_at "rd1")

section
variable {P : Program} {w : World} {K : PySem.W.Frag} {mg : Str → Option Value} {base : Heap}
/-- a plan stands at pl -/
def PlanAt (C : Addr) (H : Hp) (pl : Addr) (lv : List (Str × Option Str)) : Prop := ∃ dx d, H pl = some (.ins C dx [("_leads", .ref d)]) ∧ H d = some (.dK (dko lv))
theorem zip_fst {α β : Type} : ∀ {a : List α} {b : List β}, a.length = b.length → (a.zip b).map (·.1) = a
  | [], [], _ => rfl
  | x :: a, y :: b, h => by rw [List.zip_cons_cons, List.map_cons, zip_fst (Nat.succ.inj h)]
  | [], _ :: _, h => by cases h
  | _ :: _, [], h => by cases h
theorem zip_snd {α β : Type} : ∀ {a : List α} {b : List β}, a.length = b.length → (a.zip b).map (·.2) = b
  | [], [], _ => rfl
  | x :: a, y :: b, h => by rw [List.zip_cons_cons, List.map_cons, zip_snd (Nat.succ.inj h)]
  | [], _ :: _, h => by cases h
  | _ :: _, [], h => by cases h
theorem paired_zip {β γ δ : Type} {R : β → γ → Prop} {g : δ → γ} : ∀ {a : List β} {b : List δ}, Paired R a (b.map g) → a.length = b.length ∧ ∀ x ∈ a.zip b, R x.1 (g x.2)
  | [], [], _ => ⟨rfl, by simp⟩
  | x :: a, y :: b, h => by
    cases h with
    | cons h t =>
      obtain ⟨e, f⟩ := paired_zip t
      refine ⟨by rw [List.length_cons, List.length_cons, e], fun z hz => ?_⟩
      rw [List.zip_cons_cons] at hz
      rcases List.mem_cons.mp hz with rfl | hz
      · exact h
      · exact f z hz
  | [], _ :: _, h => by cases h
  | _ :: _, [], h => by cases h
def spPairsM (C : Addr) : Sp := fun vs H Q _ => ∃ (pl : Addr) (lv : List (Str × Option Str)), vs = [.ref pl] ∧ PlanAt C H pl lv ∧
  ∀ H' p (te : List (Addr × (Str × Option Str))), te.map (·.2) = lv → H p = none → H' p = some (.lst (te.map fun x => V.ref x.1)) → (∀ x ∈ te.map tP, H x.1 = none ∧ H' x.1 = some x.2) → Kp [] H H' → Q (.ref p) H'
theorem ok_Plan_pairs {f : Addr} {fd : FuncData} (F : Fun K "pairs" "Plan.pairs" sPlan_pairs f fd) (B : Blt mg) {Cp : Addr} (T : PlanC K Cp) : FnOk P w K mg base CX0 1 f fd PPlan_pairs (spPairsM Cp) := by
  refine F.ok scPlan_pairs (fun vs H Q E h => by obtain ⟨pl, lv, rfl, _⟩ := h; rfl) (fun cdv A outer s0 H vs Q E hr h => ?_)
  obtain ⟨pl, lv, rfl, ⟨dx, d, hpl, hd⟩, q⟩ := h
  refine ⟨_, pss_one (ps_ret (LiI.pe_listItems rfl (pe_fld (pv 0) rfl) (by rfl) B.list (by decide +kernel))), ?_⟩
  walk_at "rd"
  refine ⟨pl, Cp, dx, _, _, rfl, hpl, T.cl, T.nl, rfl, ?_⟩
  refine ⟨d, dko lv, rfl, hd, fun H' p ts k hp hts hpt hp' hpa => ?_⟩
  have hpa : Paired (fun (t : Addr) (q : Key × V) => H' t = some (.tup [kV q.1, q.2])) ts (lv.map fun e => ((Sum.inr e.1 : Key), ov e.2)) := by
    rw [show (lv.map fun e => ((Sum.inr e.1 : Key), ov e.2)) = dko lv by unfold dko dk; rw [List.map_map]; rfl]
    exact hpa
  obtain ⟨hl, hz⟩ := paired_zip hpa
  refine q H' p (ts.zip lv) (zip_snd hl) hp ?_ ?_ (Kp.of k)
  · rw [hp', show ((ts.zip lv).map fun x => V.ref x.1) = ((ts.zip lv).map (·.1)).map V.ref by rw [List.map_map]; rfl, zip_fst hl]
  · intro x hx
    obtain ⟨y, hy, rfl⟩ := List.mem_map.mp hx
    refine ⟨hts _ ?_, hz y hy⟩
    exact (List.of_mem_zip hy).1
def spOldsM (C : Addr) : Sp := fun vs H Q _ => ∃ (pl : Addr) (lv : List (Str × Option Str)), vs = [.ref pl] ∧ PlanAt C H pl lv ∧
  ∀ H' p, H p = none → H' p = some (.lst ((lv.map (·.1)).map V.str)) → Kp [] H H' → Q (.ref p) H'
theorem ok_Plan_olds {f : Addr} {fd : FuncData} (F : Fun K "olds" "Plan.olds" sPlan_olds f fd) (B : Blt mg) {Cp : Addr} (T : PlanC K Cp) : FnOk P w K mg base CX0 1 f fd PPlan_olds (spOldsM Cp) := by
  refine F.ok scPlan_olds (fun vs H Q E h => by obtain ⟨pl, lv, rfl, _⟩ := h; rfl) (fun cdv A outer s0 H vs Q E hr h => ?_)
  obtain ⟨pl, lv, rfl, ⟨dx, d, hpl, hd⟩, q⟩ := h
  refine ⟨_, pss_one (ps_ret (pe_callTy (call_listD rfl) (by rfl) B.list (by decide +kernel) (pa_cons (pe_fld (pv 0) rfl) pa_nil))), ?_⟩
  walk_at "rd"
  refine ⟨pl, Cp, dx, _, _, rfl, hpl, T.cl, T.nl, rfl, ?_⟩
  walk_at "rd"
  refine ⟨d, dko lv, rfl, .inl hd, fun p hp => ?_⟩
  have A := (At.nil H).snoc hp (.lst ((dko lv).map fun kv => kV kv.1))
  refine q _ p hp ?_ A.keep
  rw [upd_same]
  unfold dko dk
  rw [List.map_map, List.map_map, List.map_map]
  rfl
def spNewsM (C : Addr) : Sp := fun vs H Q _ => ∃ (pl : Addr) (lv : List (Str × Option Str)), vs = [.ref pl] ∧ PlanAt C H pl lv ∧ lv.length < 64 ∧
  ∀ H' p (ys : List Str), ys.Perm (lv.filterMap (·.2)) → sortedS ys = true → H p = none → H' p = some (.lst (ys.map V.str)) → Kp [] H H' → Q (.ref p) H'
theorem ok_Plan_news {f : Addr} {fd : FuncData} (F : Fun K "news" "Plan.news" sPlan_news f fd) (B : Blt mg) {Cp : Addr} (T : PlanC K Cp) : FnOk P w K mg base CX0 1 f fd PPlan_news (spNewsM Cp) := by
  refine F.ok scPlan_news (fun vs H Q E h => by obtain ⟨pl, lv, rfl, _⟩ := h; rfl) (fun cdv A outer s0 H vs Q E hr h => ?_)
  obtain ⟨pl, lv, rfl, ⟨dx, d, hpl, hd⟩, hlen, q⟩ := h
  refine ⟨_, pss_one (ps_ret (pe_callB cr_sortedS (by rfl) B.sorted (by decide +kernel) (pa_cons (pe_lock (pe_lc (own := [("new", 1)]) rfl scPlan_news.nd (pi_values (pe_fld (pv 0) rfl)) (blkOk_by (N := NPlan_news) (sc := defScope sPlan_news) (by decide +kernel)) (fun _ _ _ _ _ => (pg_name (i := 1) scPlan_news.nd rfl (Or.inl rfl))) (fun _ _ _ _ _ => pts_one (pt_cmpR op_notN (pv 1) pe_non (nomark _))) (fun _ _ _ _ _ => (pv 1)))) pa_nil))), ?_⟩
  have A := At.one hd
  walk_at "rd"
  refine rd_lockE hd trivial fun od => ?_
  have A1 := A.set 0 rfl (.frz od (.dK (dko lv)))
  walk_at "rd"
  have hne : pl ≠ d := ne_of hpl hd (by intro e; cases e)
  refine ⟨pl, Cp, dx, _, _, rfl, A1.base _ _ hpl (by rw [List.mem_singleton]; exact hne), T.cl, T.nl, rfl, ?_⟩
  refine ⟨d, od, dko lv, rfl, A1.get 0 rfl, fun D hD => ?_⟩
  refine lc_it walk_values (fun i H' => At [d] H H' [(d, .frz od (.dK (dko lv))), (D, .lst (((lv.take i).filterMap (·.2)).map V.str))] []) (A1.snoc hD _) (fun _ _ _ A => A.get 0 rfl) ?_ ?_
  · rintro i x H2 H2' hi A2 ⟨rfl, k, hk⟩
    have hi' : i < lv.length := by rw [dko_len] at hi; exact hi
    have ex : x = ov lv[i].2 := by
      unfold dko dk at hk
      rw [List.map_map, List.getElem?_map, List.getElem?_eq_getElem hi'] at hk
      exact (Prod.mk.inj (Option.some.inj hk)).2.symm
    subst ex
    have htk : lv.take (i + 1) = lv.take i ++ [lv[i]] := by rw [List.take_add_one, List.getElem?_eq_getElem hi']; rfl
    refine ⟨rfl, ?_⟩
    walk_at "rd"
    refine ⟨rfl, rd_bl ?_⟩
    cases ho : lv[i].2 with
    | none =>
      refine rd_iteN (fun h => absurd rfl h) (fun _ => ?_)
      rw [htk, List.filterMap_append, show List.filterMap (fun x : Str × Option Str => x.2) [lv[i]] = [] by rw [List.filterMap_cons_none ho]; rfl, List.append_nil]
      exact A2
    | some z =>
      refine rd_iteN (fun _ => ?_) (fun h => by cases h)
      walk_at "rd"
      have A3 := A2.set 1 rfl (.lst (((lv.take i).filterMap (·.2)).map V.str ++ [.str z]))
      refine ⟨_, A2.get 1 rfl, ?_, ?_⟩
      · rw [List.length_map]; have := List.length_filterMap_le (fun x : Str × Option Str => x.2) (lv.take i); rw [List.length_take] at this; exact szn' (by omega)
      · rw [htk, List.filterMap_append, show List.filterMap (fun x : Str × Option Str => x.2) [lv[i]] = [z] by rw [List.filterMap_cons_some ho]; rfl, List.map_append]
        exact A3
  · intro H2 A2
    rw [dko_len, List.take_length] at A2
    refine ⟨A2.get 0 rfl, ?_⟩
    have A3 := A2.set 0 rfl (.dK (dko lv))
    revert A3
    generalize upd H2 d (.dK (dko lv)) = H3
    intro A3
    walk_at "rd"
    refine ⟨D, lv.filterMap (·.2), rfl, A3.lst 1 rfl, ?_, fun ys p hys hso hp => ?_⟩
    · have := List.length_filterMap_le (fun x : Str × Option Str => x.2) lv; omega
    have A4 := A3.snoc hp (.lst (ys.map V.str))
    refine q _ p ys hys hso (A4.new0 2 rfl (by rw [List.mem_singleton]; exact A4.ne 2 0 rfl rfl (by decide))) upd_same fun b o hb _ => ?_
    by_cases e : b = d
    · subst e
      rw [hd] at hb
      cases hb
      exact A4.get 0 rfl
    · exact A4.base b o hb (by rw [List.mem_singleton]; exact e)
/-- where a plan leads a name -/
def toV (lv : List (Str × Option Str)) (z : Str) : V := match lv.find? fun e => decide (e.1 = z) with
  | none => .str z
  | some e => ov e.2
def spToM (C : Addr) : Sp := fun vs H Q _ => ∃ (pl : Addr) (lv : List (Str × Option Str)) (z : Str), vs = [.ref pl, .str z] ∧ PlanAt C H pl lv ∧ ∀ H', Kp [] H H' → Q (toV lv z) H'
theorem ok_Plan_to {f : Addr} {fd : FuncData} (F : Fun K "to" "Plan.to" sPlan_to f fd) (B : Blt mg) {Cp : Addr} (T : PlanC K Cp) : FnOk P w K mg base CX0 1 f fd PPlan_to (spToM Cp) := by
  refine F.ok scPlan_to (fun vs H Q E h => by obtain ⟨pl, lv, z, rfl, _⟩ := h; rfl) (fun cdv A outer s0 H vs Q E hr h => ?_)
  obtain ⟨pl, lv, z, rfl, ⟨dx, d, hpl, hd⟩, q⟩ := h
  refine ⟨_, pss_one (ps_ret (pe_dget2 (hu_of hr) (pe_fld (pv 0) rfl) (pv 1) (pv 1) ⟨by rfl, by rfl, by rfl, by rfl⟩)), ?_⟩
  walk_at "rd"
  refine ⟨pl, Cp, dx, _, _, rfl, hpl, T.cl, T.nl, rfl, ?_⟩
  refine ⟨d, rfl, .inl ⟨_, .inl hd⟩, ?_⟩
  walk_at "rd"
  refine ⟨_, DGet.k (k := Sum.inr z) hd, ?_⟩
  have e : (valV (dko lv) (Sum.inr z)).getD (.str z) = toV lv z := by
    rw [valV_dko]
    unfold toV
    cases lv.find? (fun e => decide (e.1 = z)) <;> rfl
  rw [e]
  exact q H (Kp.refl H)
end
end Nn

namespace Nn
open PySem PySem.Spec PyProof.Rows L2
local macro_rules | `(tactic| walk_at "rd1") => `(tactic| first
  | with_reducible refine' rd_c ?_
  | ((with_reducible refine' rd_var ?h ?_); (case h => rfl))
  | with_reducible refine' rd_op ?_
  | with_reducible refine' rd_I0 ?_
  | with_reducible refine' rd_seq ?_
  | ((with_reducible refine' rd_mod ?h ?_); (case h => decide))
  | ((with_reducible refine' rd_fdiv ?h ?_); (case h => exact ⟨by decide, by decide⟩))
  | ((with_reducible refine' rd_pow ?h ?_); (case h => exact ⟨by decide, by decide, by decide⟩))
  | ((with_reducible refine' rd_mul ?h ?_); (case h => first | exact Or.inl (by decide) | exact Or.inr (by decide)))
  | with_reducible refine' rd_set ?_
  | with_reducible refine' rd_asg ?_
  | with_reducible refine' rd_cons ?_
  | with_reducible refine' rd_nil ?_
  | with_reducible refine' rd_call ?_
  | with_reducible refine' rd_cb ?_
  | with_reducible refine' rd_if ?_
  | with_reducible refine' rd_test ?_
  | with_reducible refine' rd_B ?_
  | with_reducible refine' rd_bl ?_
  | ((with_reducible refine' rd_eq ?h ?_); (case h => rfl))
  | ((with_reducible refine' rd_ne ?h ?_); (case h => rfl))
  | with_reducible refine' rd_not ?_
  | with_reducible refine' rd_and ?_
  | with_reducible refine' rd_or ?_
  | with_reducible refine' rd_notV ?_
  | with_reducible refine' rd_chain ?_
  | with_reducible refine' rd_ret ?_
  | with_reducible refine' rd_drop ?_
  | with_reducible refine' rd_next' ?_
  | with_reducible refine' rd_lst ?_
  | with_reducible refine' rd_tup ?_
  | with_reducible refine' rd_lc ?_
  | with_reducible refine' rd_rng1 ?_
  | with_reducible refine' rd_istr ?_
  | with_reducible refine' rd_ilst ?_
  | with_reducible refine' rd_ienum ?_
  | with_reducible refine' rd_bm0 ?_
  | with_reducible refine' rd_bm ?_
  | with_reducible refine' rd_m1 ?_
  | with_reducible refine' rd_sl ?_
  | with_reducible refine' rd_po0 ?_
  | with_reducible refine' rd_po1 ?_
  | with_reducible refine' rd_in ?_
  | with_reducible refine' rd_sub ?_
  | with_reducible refine' rd_ifE ?_
  | with_reducible refine' rd_un ?_
  | with_reducible refine' rd_U ?_
  | with_reducible refine' rd_brk ?_
  | with_reducible refine' rd_cont ?_
  | with_reducible refine' rd_yes ?_
  | with_reducible refine' rd_T ?_
  | with_reducible refine' rd_F ?_
  | with_reducible refine' rd_nT ?_
  | with_reducible refine' rd_nF ?_
  | with_reducible refine' rd_dni ?_
  | with_reducible refine' rd_di ?_
  | with_reducible refine' rd_dget ?_
  | with_reducible refine' rd_dget1 ?_
  | with_reducible refine' rd_dget2 ?_
  | with_reducible refine' rd_dget2N ?_
  | with_reducible refine' rd_dpop1 ?_
  | with_reducible refine' rd_ddel ?_
  | with_reducible refine' rd_mkN ?_
  | with_reducible refine' rd_mkV ?_
  | with_reducible refine' rd_dput ?_
  | with_reducible refine' rd_dnew ?_
  | with_reducible refine' rd_ikeys ?_
  | with_reducible refine' rd_gn ?_
  | with_reducible refine' rd_for ?_
  | with_reducible refine' rd_make ?_
  | with_reducible refine' rd_meth ?_
  | with_reducible refine' rd_fld ?_
  | with_reducible refine' rd_sfld ?_
  | with_reducible refine' rd_dc ?_
  | with_reducible refine' rd_items ?_
  | with_reducible refine' rd_sadd ?_
  | with_reducible refine' rd_ivals ?_
  | with_reducible refine' rd_callS ?_
  | with_reducible refine' rd_makeS ?_
  | with_reducible refine' rd_methS ?_
  | with_reducible refine' rd_fldH ?_
  | with_reducible refine' rd_mkO ?_)
local macro_rules | `(tactic| walk_at "sub") => `(tactic| repeat' (first | exact List.nil_sublist _ | exact List.Sublist.refl _ | apply List.Sublist.cons₂ | apply List.Sublist.cons))
local macro_rules | `(tactic| walk_at "rd") => `(tactic| repeat walk_at "rd1")

section
variable {P : Program} {w : World} {K : PySem.W.Frag} {mg : Str → Option Value} {base : Heap}
/-! ### sorted, by one order alone -/
theorem rising_le : ∀ {l : List Str} {p : Str}, risingS p l = true → ∀ x ∈ l, p.cps.toList ≤ x.cps.toList
  | [], _, _, _, h => by cases h
  | y :: r, p, h, x, hx => by
    have h2 : (!ltCps y.cps.toList p.cps.toList) = true ∧ risingS y r = true := Bool.and_eq_true_iff.mp h
    have h1 : p.cps.toList ≤ y.cps.toList := by
      have := h2.1
      rw [ltCps_eq] at this
      simpa using this
    rcases List.mem_cons.mp hx with e | hx
    · rw [e]; exact h1
    · exact List.le_trans h1 (rising_le h2.2 x hx)
theorem rising_pw : ∀ {l : List Str} {p : Str}, risingS p l = true → (p :: l).Pairwise fun a b => a.cps.toList ≤ b.cps.toList
  | [], _, _ => List.pairwise_singleton _ _
  | y :: r, p, h => List.pairwise_cons.mpr ⟨rising_le h, rising_pw (Bool.and_eq_true_iff.mp h).2⟩
theorem sorted_pw : ∀ {l : List Str}, sortedS l = true → l.Pairwise fun a b => a.cps.toList ≤ b.cps.toList
  | [], _ => .nil
  | _ :: _, h => rising_pw h
theorem str_ext' {a b : Str} (h : a.cps.toList = b.cps.toList) : a = b := by
  cases a; cases b
  exact congrArg Str.mk (Array.toList_inj.mp h)
theorem sorted_eq {a b : List Str} (ha : sortedS a = true) (hb : sortedS b = true) (h : a.Perm b) : a = b :=
  List.Perm.eq_of_pairwise (fun _ _ _ _ h1 h2 => str_ext' (List.le_antisymm h1 h2)) (sorted_pw ha) (sorted_pw hb) h
theorem lv_keys {prs lv : List (Str × Option Str)} (nd : (prs.map (·.1)).Nodup) (h : lv.Perm prs) : lv = (lv.map (·.1)).map fun z => (z, toOf prs z) := by
  rw [List.map_map]
  conv => lhs; rw [← List.map_id lv]
  refine List.map_congr_left fun x hx => ?_
  show x = (x.1, toOf prs x.1)
  rw [toOf_mem nd (h.mem_iff.mp hx)]
theorem lv_eq {prs lv lw : List (Str × Option Str)} (nd : (prs.map (·.1)).Nodup) (h : lv.Perm prs) (h' : lw.Perm prs) (s : sortedS (lv.map (·.1)) = true) (s' : sortedS (lw.map (·.1)) = true) : lv = lw := by
  rw [lv_keys nd h, lv_keys nd h', sorted_eq s s' ((h.trans h'.symm).map _)]
theorem find_perm' {prs lv : List (Str × Option Str)} (nd : (prs.map (·.1)).Nodup) (h : lv.Perm prs) (z : Str) : lv.find? (fun e => decide (e.1 = z)) = prs.find? fun e => decide (e.1 = z) := by
  have nd' : (lv.map (·.1)).Nodup := (h.map _).nodup_iff.mpr nd
  cases e : prs.find? fun e => decide (e.1 = z) with
  | some x =>
    have hx := List.mem_of_find?_eq_some e
    have hz := List.find?_some e
    have hz : x.1 = z := of_decide_eq_true hz
    rw [← hz]
    exact find_mem nd' (h.mem_iff.mpr hx)
  | none =>
    rw [List.find?_eq_none] at e ⊢
    exact fun x hx => e x (h.mem_iff.mp hx)
theorem toV_perm {prs lv : List (Str × Option Str)} (nd : (prs.map (·.1)).Nodup) (h : lv.Perm prs) (z : Str) : toV lv z = toV prs z := by unfold toV; rw [find_perm' nd h]
/-! ### pairs by their old names -/
theorem dko_merge {prs : List (Str × Option Str)} (nd : (prs.map (·.1)).Nodup) : mergeK [] (dko prs) = dko prs := by
  unfold dko
  exact merge_nodup _ [] (by rw [List.nil_append, List.map_map]; exact nd)
theorem dict_pairs {H : Hp} {te : List (Addr × (Str × Option Str))} (h : ∀ x ∈ te.map tP, H x.1 = some x.2) : Paired (fun p kv => SqT K H p [kV kv.1, kv.2]) (te.map (·.1)) (dko (te.map (·.2))) := by
  unfold dko dk
  rw [List.map_map, List.map_map]
  exact paired_map fun x hx => .inl (.inl (h _ (List.mem_map_of_mem (f := tP) hx)))
def spByOlds : Sp := fun vs H Q _ => ∃ (a : Addr) (te : List (Addr × (Str × Option Str))), vs = [.ref a] ∧ H a = some (.lst (te.map fun x => V.ref x.1)) ∧ (∀ x ∈ te.map tP, H x.1 = some x.2) ∧ Good (te.map (·.2)) ∧
  ∀ H' p (te' : List (Addr × (Str × Option Str))), (te'.map (·.2)).Perm (te.map (·.2)) → sortedS ((te'.map (·.2)).map (·.1)) = true → H p = none → H' p = some (.lst (te'.map fun x => V.ref x.1)) → (∀ x ∈ te'.map tP, H x.1 = none ∧ H' x.1 = some x.2) → Kp [] H H' → Q (.ref p) H'
theorem ok__law_by_olds {f : Addr} {fd : FuncData} (F : Fun K "_law_by_olds" "_law_by_olds" s_law_by_olds f fd) (B : Blt mg) : FnOk P w K mg base CX0 1 f fd P_law_by_olds spByOlds := by
  refine F.ok sc_law_by_olds (fun vs H Q E h => by obtain ⟨a, te, rfl, _⟩ := h; rfl) (fun cdv A outer s0 H vs Q E hr h => ?_)
  obtain ⟨a, te, rfl, ha, hte, hg, q⟩ := h
  refine ⟨_, pss_cons (ps_set (i := 1) sc_law_by_olds.nd rfl (Or.inr rfl) (pe_callTy (call_dictP rfl) (by rfl) B.dict (by decide +kernel) (pa_cons (pv 0) pa_nil)))
  (pss_one (ps_ret (pe_lc (own := [("_law_old", 2)]) rfl sc_law_by_olds.nd (pi_list (pe_callB (call_sortedD rfl) (by rfl) B.sorted (by decide +kernel) (pa_cons (pv 1) pa_nil))) (blkOk_by (N := N_law_by_olds) (sc := defScope s_law_by_olds) (by decide +kernel)) (fun _ _ _ _ _ => (pg_name (i := 2) sc_law_by_olds.nd rfl (Or.inl rfl))) (fun _ _ _ _ _ => pts_nil) (fun _ _ _ _ _ => (pe_tup (pa_cons (pv 2) (pa_cons (pe_dget (hu_of hr) (pv 1) (pv 2) (fun _ _ => rfl)) pa_nil))))))), ?_⟩
  have A := At.nil H
  walk_at "rd"
  refine ⟨a, te.map (·.1), dko (te.map (·.2)), rfl, ?_, dict_pairs hte, fun d hd => ?_⟩
  · rw [List.map_map]; exact .inl (.inl ha)
  rw [dko_merge hg.oldsNd]
  refine A.u1 hd fun H1 A1 => ?_
  walk_at "rd"
  refine ⟨d, _, (te.map (·.2)).map (·.1), rfl, .inl (A1.get 0 rfl), dko_keys _, by rw [List.length_map]; exact hg.len, fun ys p2 hys hso hp2 => ?_⟩
  have A2 := A1.snoc hp2 (.lst (ys.map V.str))
  revert A2
  generalize upd H1 p2 (.lst (ys.map V.str)) = H2
  intro A2
  refine ⟨p2, rfl, ⟨_, A2.lst 1 rfl⟩, fun D hD => ?_⟩
  have nd := hg.oldsNd
  have hperm := sorted_perm nd hys
  have hyl : ys.length < 64 := by rw [hys.length_eq, List.length_map]; exact hg.len
  refine lc_it (walk_list (xs := ys.map V.str)) (fun i H' => ∃ te' : List (Addr × (Str × Option Str)), te'.map (·.2) = (ys.take i).map (fun z => (z, toOf (te.map (·.2)) z)) ∧
      At [] H H' [(d, .dK (dko (te.map (·.2)))), (p2, .lst (ys.map V.str)), (D, .lst (te'.map fun x => V.ref x.1))] (te'.map tP))
    ⟨[], rfl, A2.snoc hD _⟩ (fun i H' _ ⟨_, _, A⟩ => A.lst 1 rfl) ?_ ?_
  · rintro i x H5 H5' hi ⟨te', he, A5⟩ ⟨rfl, hx⟩
    have hi' : i < ys.length := by rw [List.length_map] at hi; exact hi
    have ex : x = .str ys[i] := by
      rw [List.getElem?_map, List.getElem?_eq_getElem hi'] at hx
      exact (Option.some.inj hx).symm
    subst ex
    have htk : ys.take (i + 1) = ys.take i ++ [ys[i]] := by rw [List.take_add_one, List.getElem?_eq_getElem hi']; rfl
    have hl : te'.length = i := by
      have := congrArg List.length he
      rw [List.length_map, List.length_map, List.length_take] at this
      omega
    have hm : ys[i] ∈ (te.map (·.2)).map (·.1) := hys.mem_iff.mp (List.getElem_mem hi')
    obtain ⟨e, he', ee⟩ := List.mem_map.mp hm
    have hv : valV (dko (te.map (·.2))) (Sum.inr ys[i]) = some (ov (toOf (te.map (·.2)) ys[i])) := by
      rw [valV_dko, ← ee, find_mem nd he', toOf_mem nd he']; rfl
    refine ⟨rfl, ?_⟩
    walk_at "rd"
    refine ⟨d, ov (toOf (te.map (·.2)) ys[i]), rfl, ?_, ?_⟩
    · rw [← hv]; exact DGet.k (k := Sum.inr ys[i]) (A5.get 0 rfl)
    refine ⟨szl, fun t ht => ?_⟩
    have A6 := A5.snocT ht (.tup [.str ys[i], ov (toOf (te.map (·.2)) ys[i])])
    have A7 := A6.set 2 rfl (.lst ((te'.map fun x => V.ref x.1) ++ [.ref t]))
    refine ⟨_, A6.get 2 rfl, by rw [List.length_map]; exact szn' (by omega), te' ++ [(t, (ys[i], toOf (te.map (·.2)) ys[i]))], ?_, ?_⟩
    · rw [List.map_append, he, htk, List.map_append]; rfl
    · rw [List.map_append, List.map_append]; exact A7
  · rintro H5 ⟨te', he, A5⟩
    rw [List.length_map, List.take_length] at he
    walk_at "rd"
    refine q H5 D te' (by rw [he]; exact hperm) ?_ (A5.new0 2 rfl (by simp)) (A5.get 2 rfl) (fun x hx => ⟨A5.tn x hx, A5.tm x hx⟩) A5.keep
    rw [he, List.map_map, show ((fun x : Str × Option Str => x.1) ∘ fun z => (z, toOf (te.map (·.2)) z)) = id from rfl, List.map_id]
    exact hso
end
end Nn

namespace Nn
open PySem PySem.Spec PyProof.Rows L2
local macro_rules | `(tactic| walk_at "rd1") => `(tactic| first
  | with_reducible refine' rd_c ?_
  | ((with_reducible refine' rd_var ?h ?_); (case h => rfl))
  | with_reducible refine' rd_op ?_
  | with_reducible refine' rd_I0 ?_
  | with_reducible refine' rd_seq ?_
  | ((with_reducible refine' rd_mod ?h ?_); (case h => decide))
  | ((with_reducible refine' rd_fdiv ?h ?_); (case h => exact ⟨by decide, by decide⟩))
  | ((with_reducible refine' rd_pow ?h ?_); (case h => exact ⟨by decide, by decide, by decide⟩))
  | ((with_reducible refine' rd_mul ?h ?_); (case h => first | exact Or.inl (by decide) | exact Or.inr (by decide)))
  | with_reducible refine' rd_set ?_
  | with_reducible refine' rd_asg ?_
  | with_reducible refine' rd_cons ?_
  | with_reducible refine' rd_nil ?_
  | with_reducible refine' rd_call ?_
  | with_reducible refine' rd_cb ?_
  | with_reducible refine' rd_if ?_
  | with_reducible refine' rd_test ?_
  | with_reducible refine' rd_B ?_
  | with_reducible refine' rd_bl ?_
  | ((with_reducible refine' rd_eq ?h ?_); (case h => rfl))
  | ((with_reducible refine' rd_ne ?h ?_); (case h => rfl))
  | with_reducible refine' rd_not ?_
  | with_reducible refine' rd_and ?_
  | with_reducible refine' rd_or ?_
  | with_reducible refine' rd_notV ?_
  | with_reducible refine' rd_chain ?_
  | with_reducible refine' rd_ret ?_
  | with_reducible refine' rd_drop ?_
  | with_reducible refine' rd_next' ?_
  | with_reducible refine' rd_lst ?_
  | with_reducible refine' rd_tup ?_
  | with_reducible refine' rd_lc ?_
  | with_reducible refine' rd_rng1 ?_
  | with_reducible refine' rd_istr ?_
  | with_reducible refine' rd_ilst ?_
  | with_reducible refine' rd_ienum ?_
  | with_reducible refine' rd_bm0 ?_
  | with_reducible refine' rd_bm ?_
  | with_reducible refine' rd_m1 ?_
  | with_reducible refine' rd_sl ?_
  | with_reducible refine' rd_po0 ?_
  | with_reducible refine' rd_po1 ?_
  | with_reducible refine' rd_in ?_
  | with_reducible refine' rd_sub ?_
  | with_reducible refine' rd_ifE ?_
  | with_reducible refine' rd_un ?_
  | with_reducible refine' rd_U ?_
  | with_reducible refine' rd_brk ?_
  | with_reducible refine' rd_cont ?_
  | with_reducible refine' rd_yes ?_
  | with_reducible refine' rd_T ?_
  | with_reducible refine' rd_F ?_
  | with_reducible refine' rd_nT ?_
  | with_reducible refine' rd_nF ?_
  | with_reducible refine' rd_dni ?_
  | with_reducible refine' rd_di ?_
  | with_reducible refine' rd_dget ?_
  | with_reducible refine' rd_dget1 ?_
  | with_reducible refine' rd_dget2 ?_
  | with_reducible refine' rd_dget2N ?_
  | with_reducible refine' rd_dpop1 ?_
  | with_reducible refine' rd_ddel ?_
  | with_reducible refine' rd_mkN ?_
  | with_reducible refine' rd_mkV ?_
  | with_reducible refine' rd_dput ?_
  | with_reducible refine' rd_dnew ?_
  | with_reducible refine' rd_ikeys ?_
  | with_reducible refine' rd_gn ?_
  | with_reducible refine' rd_for ?_
  | with_reducible refine' rd_make ?_
  | with_reducible refine' rd_meth ?_
  | with_reducible refine' rd_fld ?_
  | with_reducible refine' rd_sfld ?_
  | with_reducible refine' rd_dc ?_
  | with_reducible refine' rd_items ?_
  | with_reducible refine' rd_sadd ?_
  | with_reducible refine' rd_ivals ?_
  | with_reducible refine' rd_callS ?_
  | with_reducible refine' rd_makeS ?_
  | with_reducible refine' rd_methS ?_
  | with_reducible refine' rd_fldH ?_
  | with_reducible refine' rd_mkO ?_)
local macro_rules | `(tactic| walk_at "sub") => `(tactic| repeat' (first | exact List.nil_sublist _ | exact List.Sublist.refl _ | apply List.Sublist.cons₂ | apply List.Sublist.cons))
local macro_rules | `(tactic| walk_at "rd") => `(tactic| repeat walk_at "rd1")

section
variable {P : Program} {w : World} {K : PySem.W.Frag} {mg : Str → Option Value} {base : Heap}
/-! ### alike: the same data -/
theorem rd_isi {K : PySem.W.Frag} {x : V} {S T : String} {b : Bool} {H : Hp} {Q : VK} (h : TyX K H x (.type S)) (e : kitB S T = some b) (q : Q (.bl b) H) : rIsi K [x, .ty T] H Q := ⟨x, .ty T, _, .type T, b, rfl, .ty _, h, kit_ty e, q⟩
theorem rd_isiT2 {K : PySem.W.Frag} {x : V} {S T1 T2 : String} {b b1 b2 : Bool} {tp : Addr} {H : Hp} {Q : VK} (ht : H tp = some (.tup [.ty T1, .ty T2])) (h : TyX K H x (.type S)) (e1 : kitB S T1 = some b1) (e2 : kitB S T2 = some b2) (e : b = (b1 || b2)) (q : Q (.bl b) H) : rIsiT K [x, .ref tp] H Q := by
  refine ⟨x, tp, _, _, [.type T1, .type T2], b, rfl, ht, .cons (.ty _) (.cons (.ty _) .nil), h, kitAny_cons (b := b1) (kit_ty e1) (fun h1 => ?_) (fun h1 => by rw [e, h1]; rfl), q⟩
  subst h1
  refine kitAny_cons (b := b2) (kit_ty e2) (fun h2 => ?_) (fun h2 => by rw [e, h2]; rfl)
  subst h2; subst e
  exact kitAny_nil
theorem rd_izA {K : PySem.W.Frag} {tr : TA} {σ : L2.St} {H : Hp} {R : It → Hp → Prop} (k : tr σ H fun vs H1 => ∃ a b xs ys, vs = [.ref a, .ref b] ∧ ((SqL K H1 a xs ∧ SqL K H1 b ys ∧ R (Itz K a b) H1) ∨ (SqT K H1 a xs ∧ SqT K H1 b ys ∧ R (RZ.ItzT K a b) H1))) : RZ.iZipA K tr σ H R := k
theorem all_true (n : Nat) : (List.replicate n true).all id = true := by induction n with
  | zero => rfl
  | succ n ih => rw [List.replicate_succ, List.all_cons, ih]; rfl
def spAlike (K : PySem.W.Frag) (n : Nat) : Sp := fun vs H Q _ => ∃ (x y : V) (d : PyData), vs = [x, y] ∧ Dp K H x d ∧ Dp K H y d ∧ Sm n d ∧ ∀ H', Kp [] H H' → Q (.bl true) H'
structure CAlike (P : Program) (w : World) (K : PySem.W.Frag) (mg : Str → Option Value) (base : Heap) (k : Nat) (sp : Sp) : Prop where
  _law_alike : Cl P w K mg base k "_law_alike" sp
end
end Nn

namespace Nn
open PySem PySem.Spec PyProof.Rows L2
local macro_rules | `(tactic| walk_at "rd1") => `(tactic| first
  | with_reducible refine' rd_c ?_
  | ((with_reducible refine' rd_var ?h ?_); (case h => rfl))
  | with_reducible refine' rd_op ?_
  | with_reducible refine' rd_I0 ?_
  | with_reducible refine' rd_seq ?_
  | ((with_reducible refine' rd_mod ?h ?_); (case h => decide))
  | ((with_reducible refine' rd_fdiv ?h ?_); (case h => exact ⟨by decide, by decide⟩))
  | ((with_reducible refine' rd_pow ?h ?_); (case h => exact ⟨by decide, by decide, by decide⟩))
  | ((with_reducible refine' rd_mul ?h ?_); (case h => first | exact Or.inl (by decide) | exact Or.inr (by decide)))
  | with_reducible refine' rd_set ?_
  | with_reducible refine' rd_asg ?_
  | with_reducible refine' rd_cons ?_
  | with_reducible refine' rd_nil ?_
  | with_reducible refine' rd_call ?_
  | with_reducible refine' rd_cb ?_
  | with_reducible refine' rd_if ?_
  | with_reducible refine' rd_test ?_
  | with_reducible refine' rd_B ?_
  | with_reducible refine' rd_bl ?_
  | ((with_reducible refine' rd_eq ?h ?_); (case h => rfl))
  | ((with_reducible refine' rd_ne ?h ?_); (case h => rfl))
  | with_reducible refine' rd_not ?_
  | with_reducible refine' rd_and ?_
  | with_reducible refine' rd_or ?_
  | with_reducible refine' rd_notV ?_
  | with_reducible refine' rd_chain ?_
  | with_reducible refine' rd_ret ?_
  | with_reducible refine' rd_drop ?_
  | with_reducible refine' rd_next' ?_
  | with_reducible refine' rd_lst ?_
  | with_reducible refine' rd_tup ?_
  | with_reducible refine' rd_lc ?_
  | with_reducible refine' rd_rng1 ?_
  | with_reducible refine' rd_istr ?_
  | with_reducible refine' rd_ilst ?_
  | with_reducible refine' rd_ienum ?_
  | with_reducible refine' rd_bm0 ?_
  | with_reducible refine' rd_bm ?_
  | with_reducible refine' rd_m1 ?_
  | with_reducible refine' rd_sl ?_
  | with_reducible refine' rd_po0 ?_
  | with_reducible refine' rd_po1 ?_
  | with_reducible refine' rd_in ?_
  | with_reducible refine' rd_sub ?_
  | with_reducible refine' rd_ifE ?_
  | with_reducible refine' rd_un ?_
  | with_reducible refine' rd_U ?_
  | with_reducible refine' rd_brk ?_
  | with_reducible refine' rd_cont ?_
  | with_reducible refine' rd_yes ?_
  | with_reducible refine' rd_T ?_
  | with_reducible refine' rd_F ?_
  | with_reducible refine' rd_nT ?_
  | with_reducible refine' rd_nF ?_
  | with_reducible refine' rd_dni ?_
  | with_reducible refine' rd_di ?_
  | with_reducible refine' rd_dget ?_
  | with_reducible refine' rd_dget1 ?_
  | with_reducible refine' rd_dget2 ?_
  | with_reducible refine' rd_dget2N ?_
  | with_reducible refine' rd_dpop1 ?_
  | with_reducible refine' rd_ddel ?_
  | with_reducible refine' rd_mkN ?_
  | with_reducible refine' rd_mkV ?_
  | with_reducible refine' rd_dput ?_
  | with_reducible refine' rd_dnew ?_
  | with_reducible refine' rd_ikeys ?_
  | with_reducible refine' rd_gn ?_
  | with_reducible refine' rd_for ?_
  | with_reducible refine' rd_make ?_
  | with_reducible refine' rd_meth ?_
  | with_reducible refine' rd_fld ?_
  | with_reducible refine' rd_sfld ?_
  | with_reducible refine' rd_dc ?_
  | with_reducible refine' rd_items ?_
  | with_reducible refine' rd_sadd ?_
  | with_reducible refine' rd_ivals ?_
  | with_reducible refine' rd_callS ?_
  | with_reducible refine' rd_makeS ?_
  | with_reducible refine' rd_methS ?_
  | with_reducible refine' rd_fldH ?_
  | with_reducible refine' rd_mkO ?_)
local macro_rules | `(tactic| walk_at "sub") => `(tactic| repeat' (first | exact List.nil_sublist _ | exact List.Sublist.refl _ | apply List.Sublist.cons₂ | apply List.Sublist.cons))
local macro_rules | `(tactic| walk_at "rd") => `(tactic| repeat walk_at "rd1")

section
variable {P : Program} {w : World} {K : PySem.W.Frag} {mg : Str → Option Value} {base : Heap}
/-! ### what a plan tells when it is asked -/
/-- pairs as data -/
def dO : Option Str → PyData
  | none => .none
  | some z => .str z
def dP (e : Str × Option Str) : PyData := .tuple [.str e.1, dO e.2]
theorem dp_ov {H : Hp} (o : Option Str) : Dp K H (ov o) (dO o) := by
  cases o with
  | none => exact .non
  | some z => exact .str z
theorem dpa_strs {H : Hp} (zs : List Str) : DpAll K H (zs.map V.str) (zs.map PyData.str) := dpa_of fun z _ => .str z
theorem dpa_prs {H : Hp} {te : List (Addr × (Str × Option Str))} (h : ∀ x ∈ te.map tP, H x.1 = some x.2) : DpAll K H (te.map fun x => V.ref x.1) ((te.map (·.2)).map dP) := by
  rw [List.map_map]
  exact dpa_of fun x hx => .tup (.inl (.inl (h _ (List.mem_map_of_mem (f := tP) hx)))) (.cons (.str _) (.cons (dp_ov _) .nil))
def duesOf (lv : List (Str × Option Str)) (nl : List Str) (i : Int) : List PyData := if i = 0 then lv.map dP else if i = 1 then (lv.map (·.1)).map PyData.str else nl.map PyData.str
structure CAsked (P : Program) (w : World) (K : PySem.W.Frag) (mg : Str → Option Value) (base : Heap) (Cp : Addr) : Prop where
  Plan_pairs : Mt P w K mg base 1 Cp "pairs" (spPairsM Cp)
  Plan_olds : Mt P w K mg base 1 Cp "olds" (spOldsM Cp)
  Plan_news : Mt P w K mg base 1 Cp "news" (spNewsM Cp)
def spAsked (K : PySem.W.Frag) (C : Addr) : Sp := fun vs H Q _ => ∃ (pl : Addr) (i : Int) (lv : List (Str × Option Str)) (nl : List Str), vs = [.ref pl, .int i] ∧ 0 ≤ i ∧ i < 3 ∧ PlanAt C H pl lv ∧ lv.length < 64 ∧ nl.Perm (lv.filterMap (·.2)) ∧ sortedS nl = true ∧
  ∀ H' p xs (N : List (Addr × HO)), H p = none → H' p = some (.lst xs) → (∀ x ∈ N, H x.1 = none ∧ H' x.1 = some x.2) → (∀ x ∈ N, x.1 ≠ p) → (∀ G : Hp, (∀ x ∈ N, G x.1 = some x.2) → DpAll K G xs (duesOf lv nl i)) → Kp [] H H' → Q (.ref p) H'
end
end Nn

namespace Nn
open PySem PySem.Spec PyProof.Rows L2
/-! ### data: what a plan tells -/
theorem depthAll_le {m : Nat} : ∀ {ds : List PyData}, (∀ e ∈ ds, e.depth ≤ m) → PyData.depthAll ds ≤ m
  | [], _ => Nat.zero_le _
  | d :: ds, h => Nat.max_le.mpr ⟨h d List.mem_cons_self, depthAll_le fun e he => h e (List.mem_cons_of_mem _ he)⟩
theorem canAll {ds : List PyData} (h : ∀ e ∈ ds, e.canLay0 = true) : PyData.canLayAll0 ds = true := by
  induction ds with
  | nil => rfl
  | cons d ds ih => rw [PyData.canLayAll0, h d List.mem_cons_self, ih fun e he => h e (List.mem_cons_of_mem _ he)]; rfl
theorem sm_lay : ∀ (n : Nat) (d : PyData), Sm n d → d.canLay0 = true ∧ d.depth ≤ n
  | n, .none, _ => ⟨rfl, Nat.zero_le _⟩
  | n, .bool _, _ => ⟨rfl, Nat.zero_le _⟩
  | n, .int _, _ => ⟨rfl, Nat.zero_le _⟩
  | n, .str z, h => ⟨by cases n <;> exact h, Nat.zero_le _⟩
  | 0, .list _, h => h.elim
  | 0, .tuple _, h => h.elim
  | n + 1, .list ds, h => ⟨canAll fun e he => (sm_lay n e (h.2 e he)).1, Nat.succ_le_succ (depthAll_le fun e he => (sm_lay n e (h.2 e he)).2)⟩
  | n + 1, .tuple ds, h => ⟨canAll fun e he => (sm_lay n e (h.2 e he)).1, Nat.succ_le_succ (depthAll_le fun e he => (sm_lay n e (h.2 e he)).2)⟩
  | 0, .dict _, h => h.elim
  | n + 1, .dict _, h => h.elim
theorem sm_shaped {n : Nat} {d : PyData} (h : Sm n d) (hn : n ≤ 64) : SeqAt.shaped d = true := by
  unfold SeqAt.shaped
  rw [(sm_lay n d h).1, decide_eq_true (Nat.le_trans (sm_lay n d h).2 hn)]; rfl
theorem sm_str {n : Nat} {z : Str} (h : PyData.strOk z = true) : Sm n (.str z) := by cases n <;> exact h
theorem sm_dO {n : Nat} {o : Option Str} (h : ∀ z, o = some z → PyData.strOk z = true) : Sm n (dO o) := by
  cases o with
  | none => cases n <;> exact True.intro
  | some z => exact sm_str (h z rfl)
theorem sm_list {n : Nat} {ds : List PyData} (hl : ds.length ≤ 1000) (h : ∀ e ∈ ds, Sm n e) : Sm (n + 1) (.list ds) := ⟨hl, h⟩
theorem sm_dues {lv : List (Str × Option Str)} {nl : List Str} (g : Good lv) (hn : nl.Perm (lv.filterMap (·.2))) (i : Int) : Sm 2 (.list (duesOf lv nl i)) := by
  have hl := g.len
  have hnl : nl.length < 64 := by have := hn.length_eq; have := List.length_filterMap_le (fun x : Str × Option Str => x.2) lv; omega
  unfold duesOf
  by_cases h0 : i = 0
  · rw [if_pos h0]
    refine sm_list (by rw [List.length_map]; omega) fun e he => ?_
    obtain ⟨x, hx, rfl⟩ := List.mem_map.mp he
    refine ⟨by show 2 ≤ 1000; omega, fun d hd => ?_⟩
    rcases List.mem_cons.mp hd with rfl | hd
    · exact nameOk_ok (g.old x hx)
    · rw [List.mem_singleton] at hd
      subst hd
      exact sm_dO fun z hz => nameOk_ok (g.new x hx z hz)
  · rw [if_neg h0]
    by_cases h1 : i = 1
    · rw [if_pos h1]
      refine sm_list (by rw [List.length_map, List.length_map]; omega) fun e he => ?_
      obtain ⟨x, hx, rfl⟩ := List.mem_map.mp he
      obtain ⟨y, hy, rfl⟩ := List.mem_map.mp hx
      exact sm_str (nameOk_ok (g.old y hy))
    · rw [if_neg h1]
      refine sm_list (by rw [List.length_map]; omega) fun e he => ?_
      obtain ⟨x, hx, rfl⟩ := List.mem_map.mp he
      obtain ⟨y, hy, ey⟩ := List.mem_filterMap.mp (hn.mem_iff.mp hx)
      exact sm_str (nameOk_ok (g.new y hy x ey))
theorem Good.perm {lv prs : List (Str × Option Str)} (h : lv.Perm prs) (g : Good prs) : Good lv :=
  ⟨fun e he => g.old e (h.mem_iff.mp he), fun e he => g.new e (h.mem_iff.mp he), (h.map _).nodup_iff.mpr g.oldsNd, (h.filterMap _).nodup_iff.mpr g.newsNd, by rw [h.length_eq]; exact g.len⟩
theorem plan_kp {C : Addr} {H H' : Hp} {pl : Addr} {lv : List (Str × Option Str)} (h : PlanAt C H pl lv) (k : Kp [] H H') : PlanAt C H' pl lv := by
  obtain ⟨dx, d, h1, h2⟩ := h
  exact ⟨dx, d, k _ _ h1 (by simp), k _ _ h2 (by simp)⟩
section
variable {M : List Addr} {H0 H H' : Hp} {L L' T : List (Addr × HO)} {p : Addr} {o : HO}
theorem At.addB (A : At M H0 H L T) (k : Kp [] H H') (h : H p = none) (hp : H' p = some o) (N : List (Addr × HO)) (hN : ∀ x ∈ N, H x.1 = none ∧ H' x.1 = some x.2) (hd : ∀ x ∈ N, x.1 ≠ p) : At M H0 H' (L ++ [(p, o)]) (T ++ N) := by
  have B := A.addT (A.c0 k) rfl N hN
  have fr := A.fresh h
  refine ⟨B.base, ?_, ?_, ?_, ?_, B.tm, ?_, B.tn⟩
  · rw [List.map_append, List.nodup_append]
    refine ⟨A.nd, by simp, ?_⟩
    intro a ha b hb q
    rw [List.map_singleton, List.mem_singleton] at hb
    subst q; subst hb
    exact fr ha
  · intro x he
    rcases List.mem_append.mp he with he | he
    · exact B.mem x he
    · rw [List.mem_singleton] at he; subst he; exact hp
  · intro x he
    rcases List.mem_append.mp he with he | he
    · exact A.own x he
    · rw [List.mem_singleton] at he; subst he; exact .inl (A.fresh0 h)
  · intro a ha
    rw [List.map_append]
    exact List.mem_append_left _ (A.mL a ha)
  · intro x he
    rw [List.map_append, List.mem_append]
    rintro (q | q)
    · exact B.td x he q
    · rw [List.map_singleton, List.mem_singleton] at q
      rcases List.mem_append.mp he with he | he
      · exact A.freshT h x he q
      · exact hd x he q
theorem At.perm (A : At M H0 H L T) (h : L.Perm L') : At M H0 H L' T :=
  ⟨A.base, (h.map _).nodup_iff.mp A.nd, fun e he => A.mem e (h.mem_iff.mpr he), fun e he => A.own e (h.mem_iff.mpr he), fun a ha => (h.map _).mem_iff.mp (A.mL a ha), A.tm, fun e he q => A.td e he ((h.map _).mem_iff.mpr q), A.tn⟩
end
section
variable {M : List Addr} {H0 H H' : Hp} {L L' T : List (Addr × HO)} {p : Addr} {o : HO}
theorem At.addC (A : At M H0 H L T) (A' : At M H0 H' L' T) (e : L'.map Prod.fst = L.map Prod.fst) (h : H p = none) (hp : H' p = some o) (N : List (Addr × HO)) (hN : ∀ x ∈ N, H x.1 = none ∧ H' x.1 = some x.2) (hd : ∀ x ∈ N, x.1 ≠ p) : At M H0 H' (L' ++ [(p, o)]) (T ++ N) := by
  have B := A.addT A' e N hN
  have C := A.add A' e h hp
  refine ⟨C.base, C.nd, C.mem, C.own, C.mL, B.tm, ?_, B.tn⟩
  intro x he
  rcases List.mem_append.mp he with he | he
  · exact C.td x he
  · rw [List.map_append, List.mem_append]
    rintro (q | q)
    · exact B.td x (List.mem_append_right _ he) q
    · rw [List.map_singleton, List.mem_singleton] at q
      exact hd x he q
theorem At.allT (A : At [] H0 H L T) : At [] H0 H [] (T ++ L) := by
  refine ⟨A.base, List.nodup_nil, by simp, by simp, by simp, ?_, by simp, ?_⟩
  · intro e he
    rcases List.mem_append.mp he with he | he
    · exact A.tm e he
    · exact A.mem e he
  · intro e he
    rcases List.mem_append.mp he with he | he
    · exact A.tn e he
    · exact (A.own e he).resolve_right (by simp)
end
theorem tP_ne {H : Hp} {p : Addr} {xs : List V} {te : List (Addr × (Str × Option Str))} (hp : H p = some (.lst xs)) (h : ∀ x ∈ te.map tP, H x.1 = some x.2) : ∀ x ∈ te.map tP, x.1 ≠ p := by
  intro x hx e
  have h1 := h x hx
  obtain ⟨y, hy, rfl⟩ := List.mem_map.mp hx
  rw [e, hp] at h1
  cases h1
theorem good_pairs {ps : List Str} {td : List (Str × V)} {prs : List (Str × Option Str)} (hp : Pool ps) (ht : Things ps td) (h : Pairs ps td prs) : Good prs :=
  ⟨fun e he => hp.ok _ (ht.sub _ (h.olds _ (List.mem_map_of_mem (f := fun x : Str × Option Str => x.1) he))), fun e he z hz => hp.ok _ (h.news z (List.mem_filterMap.mpr ⟨e, he, hz⟩)).1, h.oldsNd, h.newsNd, by have := h.len; omega⟩
theorem good_nil : Good [] := ⟨by simp, by simp, by simp, by simp, by decide⟩
theorem eqV_str (x y : Str) : eqV (.str x) (.str y) = decide (x = y) := by
  show (_ : Bool) = _
  by_cases h : x = y
  · subst h; rw [decide_eq_true rfl]; exact beq_self_eq_true _
  · rw [decide_eq_false h]; exact beq_eq_false_iff_ne.mpr h
theorem inV_strs (x : Str) (l : List Str) : inV (.str x) (l.map V.str) = decide (x ∈ l) := by
  unfold inV
  rw [List.any_map]
  induction l with
  | nil => rfl
  | cons y r ih =>
    rw [List.any_cons, ih]
    show (eqV (.str y) (.str x) || _) = _
    rw [eqV_str, ← Bool.decide_or]
    exact decide_eq_decide.mpr (by rw [List.mem_cons, eq_comm (a := x)])
theorem inV_opts (n : Str) (l : List (Option Str)) : inV (.str n) (l.map ov) = decide (some n ∈ l) := by
  unfold inV
  rw [List.any_map]
  induction l with
  | nil => rfl
  | cons e r ih =>
    rw [List.any_cons, ih]
    show (eqV (ov e) (.str n) || _) = _
    cases e with
    | none => exact decide_eq_decide.mpr (by rw [List.mem_cons]; simp)
    | some y =>
      show (eqV (.str y) (.str n) || _) = _
      rw [eqV_str, ← Bool.decide_or]
      exact decide_eq_decide.mpr (by rw [List.mem_cons, eq_comm (a := y)]; simp)
theorem flat_opts (l : List (Option Str)) : (l.map ov).all flatV = true := by
  rw [List.all_map, List.all_eq_true]
  intro o _
  cases o <;> rfl
theorem flat_strs (l : List Str) : (l.map V.str).all flatV = true := by
  rw [List.all_map, List.all_eq_true]
  intro o _
  rfl
/-! ### sorting is there -/
theorem rising_of : ∀ {l : List Str} {p : Str}, (p :: l).Pairwise (fun a b => a.cps.toList ≤ b.cps.toList) → risingS p l = true
  | [], _, _ => rfl
  | y :: r, p, h => by
    have h2 := List.pairwise_cons.mp h
    have h1 := h2.1 y List.mem_cons_self
    show (!ltCps y.cps.toList p.cps.toList && risingS y r) = true
    rw [rising_of h2.2, Bool.and_true, ltCps_eq]
    simpa using h1
theorem sorted_of : ∀ {l : List Str}, l.Pairwise (fun a b => a.cps.toList ≤ b.cps.toList) → sortedS l = true
  | [], _ => rfl
  | _ :: _, h => rising_of h
theorem exists_sorted (l : List Str) : ∃ s, s.Perm l ∧ sortedS s = true := by
  refine ⟨l.mergeSort fun a b => decide (a.cps.toList ≤ b.cps.toList), List.mergeSort_perm _ _, sorted_of ?_⟩
  have := List.pairwise_mergeSort (le := fun a b : Str => decide (a.cps.toList ≤ b.cps.toList)) (fun a b c h1 h2 => decide_eq_true (List.le_trans (of_decide_eq_true h1) (of_decide_eq_true h2))) (fun a b => by
    rcases List.le_total a.cps.toList b.cps.toList with h | h
    · rw [decide_eq_true h]; rfl
    · rw [decide_eq_true h, Bool.or_true]) l
  exact this.imp fun h => of_decide_eq_true h
/-! ### slices -/
theorem cut_take (xs : List V) (i : Int) : ∃ m, cutV xs none (some i) = xs.take m := by
  unfold cutV
  rw [HT.sIx_none, List.drop_zero]
  exact ⟨_, rfl⟩
theorem putK_new_dk {td : List (Str × V)} {z : Str} (v : V) (h : z ∉ td.map (·.1)) : putK (dk td) (Sum.inr z) v = dk (td ++ [(z, v)]) := by
  have hn : valV (dk td) (Sum.inr z) = none := by
    have := valV_dk_some td z
    rw [decide_eq_false h] at this
    exact Option.not_isSome_iff_eq_none.mp (by rw [this]; decide)
  rw [putK_new _ hn]
  unfold dk
  rw [List.map_append]; rfl
end Nn

namespace Nn
open PySem PySem.Spec PyProof.Rows L2
/-! ### Plan(pairs), in a ledger -/
theorem plan_new {M : List Addr} {H0 H : Hp} {L T : List (Addr × HO)} {G : VK} {E : XK} {C pl dx a : Addr} {te : List (Addr × (Str × Option Str))} (A : At M H0 H L T) (hpl : H pl = none) (hdx : H dx = none) (hne : dx ≠ pl)
    (ha : H a = some (.lst (te.map fun x => V.ref x.1))) (hte : ∀ x ∈ te.map tP, H x.1 = some x.2) (hg : Good (te.map (·.2)))
    (k : ∀ H' d lv, lv.Perm (te.map (·.2)) → sortedS (lv.map (·.1)) = true → Kp [] H H' → At M H0 H' (L ++ [(pl, .ins C dx [("_leads", .ref d)]), (d, .dK (dko lv))]) T → G .non H') :
    spInit C [.ref pl, .ref a] (upd (upd H dx (.own pl)) pl (.ins C dx [])) G E := by
  have hpl1 : upd H dx (.own pl) pl = none := by rw [upd_ne hne.symm]; exact hpl
  have A1 := A.snoc hdx (.own pl)
  have A2 := A1.snoc hpl1 (.ins C dx [])
  have n1 : ∀ {b : Addr} {o : HO}, H b = some o → b ≠ dx ∧ b ≠ pl := fun {b o} hb => ⟨ne_of_none hb hdx, ne_of_none hb hpl⟩
  have up : ∀ {b : Addr} {o : HO}, H b = some o → upd (upd H dx (.own pl)) pl (.ins C dx []) b = some o := fun {b o} hb => by
    rw [upd_ne (n1 hb).2, upd_ne (n1 hb).1]; exact hb
  refine ⟨pl, a, dx, te, rfl, upd_same, up ha, fun x hx => up (hte x hx), hg, fun H' d lv hlv hso hd k1 hpl' hd' => ?_⟩
  have i1 : (L ++ [(dx, HO.own pl)] ++ [(pl, HO.ins C dx [])])[L.length + 1]? = some (pl, HO.ins C dx []) := by simp
  have A3 := A2.add (A2.c1 (L.length + 1) i1 k1 hpl') (by simp) hd hd'
  have es : ((L ++ [(dx, HO.own pl)] ++ [(pl, HO.ins C dx [])]).set (L.length + 1) (pl, HO.ins C dx [("_leads", .ref d)])) ++ [(d, HO.dK (dko lv))] = L ++ ((dx, HO.own pl) :: [(pl, HO.ins C dx [("_leads", .ref d)]), (d, .dK (dko lv))]) := by
    simp [List.set_append]
  rw [es] at A3
  refine k H' d lv hlv hso (fun b o hb _ => k1 b o (up hb) ?_) (A3.sel (fun x hx => ?_) ((List.Sublist.refl L).append (List.sublist_cons_self _ _)))
  · rw [List.mem_singleton]; exact (n1 hb).2
  · rw [List.map_append]; exact List.mem_append_left _ (A.mL x hx)
end Nn

namespace Nn
open PySem PySem.Spec PyProof.Rows L2
/-! ### texts of plans: the data -/
theorem empty_app (z : Str) : Str.empty ++ z = z := TL.ext_tl (by rw [TL.tl_append]; rfl)
theorem app_assoc (x y z : Str) : x ++ y ++ z = x ++ (y ++ z) := TL.ext_tl (by simp only [TL.tl_append, List.append_assoc])
theorem tl_sp : TL.tl (" " : Str) = [32] := by decide +kernel
theorem tl_nl : TL.tl ("\n" : Str) = [10] := by decide +kernel
theorem name_no {z : Str} (h : nameOk z = true) {c : Nat} (hc : c < 97) : c ∉ TL.tl z := fun hm => by
  have := signOk_lt (nameOk_sign h c hm)
  omega
theorem dash_no : nameOk "-" = false := by decide +kernel
/-- a row cut at its first blank -/
theorem part_cases (row : Str) : (Txt.partition row " " = (row, Str.empty, Str.empty)) ∨ ∃ p q : Str, row = p ++ " " ++ q ∧ Txt.partition row " " = (p, (" " : Str), q) := by
  by_cases h : 32 ∈ TL.tl row
  · obtain ⟨p, q, e, hp⟩ : ∃ p q, TL.tl row = p ++ 32 :: q ∧ 32 ∉ p := by
      generalize TL.tl row = l at h
      induction l with
      | nil => cases h
      | cons c r ih =>
        by_cases hc : c = 32
        · exact ⟨[], r, by rw [hc]; rfl, by simp⟩
        · rcases List.mem_cons.mp h with e | e
          · exact absurd e.symm hc
          · obtain ⟨p, q, e1, e2⟩ := ih e
            exact ⟨c :: p, q, by rw [e1]; rfl, fun hm => (List.mem_cons.mp hm).elim (fun e => hc e.symm) e2⟩
    have er : row = SX.S p ++ " " ++ SX.S q := TL.ext_tl (by rw [TL.tl_append, TL.tl_append, tl_sp, e, List.append_assoc]; rfl)
    refine .inr ⟨SX.S p, SX.S q, er, ?_⟩
    rw [er]
    exact TL.partition_app tl_sp hp
  · exact .inl (TL.partition_none tl_sp h)
theorem part_len (row : Str) : (Txt.partition row " ").1.length ≤ row.length ∧ (Txt.partition row " ").2.2.length ≤ row.length := by
  rcases part_cases row with h | ⟨p, q, e, h⟩
  · rw [h]; exact ⟨Nat.le_refl _, Nat.zero_le _⟩
  · rw [h, e, Str.length_append, Str.length_append]
    show p.length ≤ _ ∧ q.length ≤ _
    omega
/-- a pair's row -/
def rowW (e : Str × Option Str) : Str := e.1 ++ " " ++ e.2.getD "-"
def pairF (row : Str) : Option (Str × Option Str) :=
  if nameOk (Txt.partition row " ").1 = true then
    if (Txt.partition row " ").2.2 = "-" then some ((Txt.partition row " ").1, none)
    else if nameOk (Txt.partition row " ").2.2 = true then some ((Txt.partition row " ").1, some (Txt.partition row " ").2.2) else none
  else none
theorem pairF_row {e : Str × Option Str} (h1 : nameOk e.1 = true) (h2 : ∀ z, e.2 = some z → nameOk z = true) : pairF (rowW e) = some e := by
  have hp : Txt.partition (rowW e) " " = (e.1, (" " : Str), e.2.getD "-") := TL.partition_app tl_sp (name_no h1 (by decide))
  unfold pairF
  rw [hp]
  obtain ⟨o, n⟩ := e
  dsimp only at h1 h2 ⊢
  rw [if_pos h1]
  cases n with
  | none => exact if_pos rfl
  | some z =>
    have hz := h2 z rfl
    show (if z = "-" then some (o, none) else if nameOk z = true then some (o, some z) else none) = _
    rw [if_neg (fun e => by rw [e, dash_no] at hz; cases hz), if_pos hz]
theorem pairF_ok {row : Str} {e : Str × Option Str} (h : pairF row = some e) : nameOk e.1 = true ∧ ∀ z, e.2 = some z → nameOk z = true := by
  unfold pairF at h
  split at h
  · rename_i h1
    split at h
    · cases h; exact ⟨h1, fun z hz => by cases hz⟩
    · split at h
      · rename_i h2
        cases h
        exact ⟨h1, fun z hz => by cases hz; exact h2⟩
      · cases h
  · cases h
/-- rows read one behind the other -/
def okRow (sp : Option Str) (acc : List (Str × Option Str)) (row : Str) : Option (Str × Option Str) := match pairF row with
  | none => none
  | some e => if some e.1 ∈ sp :: acc.map (fun e => some e.1) ∨ (e.2 ≠ none ∧ e.2 ∈ sp :: acc.map (·.2)) then none else some e
def scanF (sp : Option Str) : List (Str × Option Str) → List Str → Nat ⊕ List (Str × Option Str)
  | acc, [] => .inr acc
  | acc, r :: rs => match okRow sp acc r with
    | none => .inl acc.length
    | some e => scanF sp (acc ++ [e]) rs
theorem scan_snoc {sp : Option Str} : ∀ {rows : List Str} {acc : List (Str × Option Str)} {r : Str}, scanF sp acc (rows ++ [r]) = (match scanF sp acc rows with
    | .inl n => .inl n
    | .inr acc' => match okRow sp acc' r with
      | none => .inl acc'.length
      | some e => .inr (acc' ++ [e]))
  | [], acc, r => by
    show (match okRow sp acc r with | none => _ | some e => scanF sp (acc ++ [e]) []) = _
    cases h : okRow sp acc r with
    | none => simp only [scanF, h]
    | some e => simp only [scanF, h]
  | x :: rows, acc, r => by
    show (match okRow sp acc x with | none => _ | some e => scanF sp (acc ++ [e]) (rows ++ [r])) = _
    cases h : okRow sp acc x with
    | none => simp only [scanF, h]
    | some e =>
      simp only [scanF, h]
      exact scan_snoc
theorem scan_stop {sp : Option Str} : ∀ {rows more : List Str} {acc : List (Str × Option Str)} {n : Nat}, scanF sp acc rows = .inl n → scanF sp acc (rows ++ more) = .inl n
  | [], more, acc, n, h => by cases h
  | x :: rows, more, acc, n, h => by
    show (match okRow sp acc x with | none => _ | some e => scanF sp (acc ++ [e]) (rows ++ more)) = _
    have h : (match okRow sp acc x with | none => .inl acc.length | some e => scanF sp (acc ++ [e]) rows) = Sum.inl n := h
    cases hx : okRow sp acc x with
    | none => rw [hx] at h; exact h
    | some e => rw [hx] at h; exact scan_stop h
/-- what was read so far -/
structure RdOk (prs : List (Str × Option Str)) : Prop where
  old : ∀ e ∈ prs, nameOk e.1 = true
  new : ∀ e ∈ prs, ∀ z, e.2 = some z → nameOk z = true
  oldsNd : (prs.map (·.1)).Nodup
  newsNd : (prs.filterMap (·.2)).Nodup
theorem RdOk.nil : RdOk [] := ⟨by simp, by simp, by simp, by simp⟩
theorem RdOk.snoc {sp : Option Str} {acc : List (Str × Option Str)} {r : Str} {e : Str × Option Str} (g : RdOk acc) (h : okRow sp acc r = some e) : RdOk (acc ++ [e]) := by
  unfold okRow at h
  cases hp : pairF r with
  | none => rw [hp] at h; cases h
  | some e' =>
    rw [hp] at h
    have h : (if some e'.1 ∈ sp :: acc.map (fun e => some e.1) ∨ (e'.2 ≠ none ∧ e'.2 ∈ sp :: acc.map (·.2)) then none else some e') = some e := h
    split at h
    · cases h
    · rename_i hn
      cases h
      obtain ⟨p1, p2⟩ := pairF_ok hp
      have n1 : e.1 ∉ acc.map (·.1) := fun hm => by
        obtain ⟨x, hx, ex⟩ := List.mem_map.mp hm
        exact hn (.inl (List.mem_cons_of_mem _ (List.mem_map.mpr ⟨x, hx, by rw [ex]⟩)))
      refine ⟨fun x hx => ?_, fun x hx => ?_, ?_, ?_⟩
      · rcases List.mem_append.mp hx with hx | hx
        · exact g.old x hx
        · rw [List.mem_singleton] at hx; rw [hx]; exact p1
      · rcases List.mem_append.mp hx with hx | hx
        · exact g.new x hx
        · rw [List.mem_singleton] at hx; rw [hx]; exact p2
      · rw [List.map_append, List.nodup_append]
        refine ⟨g.oldsNd, by simp, fun a ha b hb q => ?_⟩
        rw [List.map_singleton, List.mem_singleton] at hb
        exact n1 (hb ▸ q ▸ ha)
      · rw [List.filterMap_append, List.nodup_append]
        refine ⟨g.newsNd, ?_, fun a ha b hb q => ?_⟩
        · cases h2 : e.2 <;> simp [h2]
        · obtain ⟨x, hx, ex⟩ := List.mem_filterMap.mp ha
          obtain ⟨y, hy, ey⟩ := List.mem_filterMap.mp hb
          rw [List.mem_singleton] at hy
          rw [hy] at ey
          exact hn (.inr ⟨by rw [ey]; simp, List.mem_cons_of_mem _ (List.mem_map.mpr ⟨x, hx, by rw [ex, ey, q]⟩)⟩)
theorem scan_ok {sp : Option Str} : ∀ {rows : List Str} {acc prs : List (Str × Option Str)}, RdOk acc → scanF sp acc rows = .inr prs → RdOk prs ∧ prs.length = acc.length + rows.length
  | [], acc, prs, g, h => by cases h; exact ⟨g, rfl⟩
  | r :: rows, acc, prs, g, h => by
    have h : (match okRow sp acc r with | none => .inl acc.length | some e => scanF sp (acc ++ [e]) rows) = Sum.inr prs := h
    cases hx : okRow sp acc r with
    | none => rw [hx] at h; cases h
    | some e =>
      rw [hx] at h
      obtain ⟨g1, g2⟩ := scan_ok (g.snoc hx) h
      refine ⟨g1, ?_⟩
      have e1 : (acc ++ [e]).length = acc.length + 1 := by rw [List.length_append]; rfl
      rw [g2, e1, List.length_cons]
      omega
/-- the rows of a plan's pairs are read as these pairs -/
theorem scan_rows {sp : Option Str} : ∀ {prs acc : List (Str × Option Str)}, RdOk (acc ++ prs) → (∀ e ∈ acc ++ prs, some e.1 ≠ sp ∧ (e.2 = none ∨ e.2 ≠ sp)) → scanF sp acc (prs.map rowW) = .inr (acc ++ prs)
  | [], acc, g, _ => by rw [List.append_nil]; rfl
  | e :: prs, acc, g, hs => by
    have hm : e ∈ acc ++ e :: prs := List.mem_append_right _ List.mem_cons_self
    have ho : okRow sp acc (rowW e) = some e := by
      unfold okRow
      rw [pairF_row (g.old e hm) (g.new e hm)]
      show (if _ then none else some e) = some e
      rw [if_neg]
      rintro (h | ⟨h1, h2⟩)
      · rcases List.mem_cons.mp h with h | h
        · exact (hs e hm).1 h
        · obtain ⟨x, hx, ex⟩ := List.mem_map.mp h
          have nd := g.oldsNd
          rw [List.map_append, List.nodup_append] at nd
          exact nd.2.2 _ (List.mem_map_of_mem (f := fun x : Str × Option Str => x.1) hx) _ (List.mem_map_of_mem (f := fun x : Str × Option Str => x.1) List.mem_cons_self) (Option.some.inj ex)
      · rcases List.mem_cons.mp h2 with h | h
        · exact (hs e hm).2.elim (fun q => h1 q) (fun q => q h)
        · obtain ⟨x, hx, ex⟩ := List.mem_map.mp h
          have nd := g.newsNd
          rw [List.filterMap_append, List.nodup_append] at nd
          obtain ⟨z, hz⟩ : ∃ z, e.2 = some z := Option.ne_none_iff_exists'.mp h1
          exact nd.2.2 z (List.mem_filterMap.mpr ⟨x, hx, by rw [ex, hz]⟩) z (List.mem_filterMap.mpr ⟨e, List.mem_cons_self, hz⟩) rfl
    show (match okRow sp acc (rowW e) with | none => _ | some e => scanF sp (acc ++ [e]) (prs.map rowW)) = _
    rw [ho]
    have e1 : acc ++ e :: prs = (acc ++ [e]) ++ prs := by rw [List.append_assoc]; rfl
    rw [e1] at g hs ⊢
    exact scan_rows g hs
/-- a text read: what is behind the last line end, the rows -/
def readF (rows : List Str) (rest : Str) : Nat ⊕ List (Str × Option Str) := match scanF none [] rows with
  | .inl n => .inl n
  | .inr prs => if rest = "" then .inr prs else .inl rows.length
end Nn

namespace Nn
open PySem PySem.Spec PyProof.Rows L2
local macro_rules | `(tactic| walk_at "rd1") => `(tactic| first
  | with_reducible refine' rd_c ?_
  | ((with_reducible refine' rd_var ?h ?_); (case h => rfl))
  | with_reducible refine' rd_op ?_
  | with_reducible refine' rd_I0 ?_
  | with_reducible refine' rd_seq ?_
  | ((with_reducible refine' rd_mod ?h ?_); (case h => decide))
  | ((with_reducible refine' rd_fdiv ?h ?_); (case h => exact ⟨by decide, by decide⟩))
  | ((with_reducible refine' rd_pow ?h ?_); (case h => exact ⟨by decide, by decide, by decide⟩))
  | ((with_reducible refine' rd_mul ?h ?_); (case h => first | exact Or.inl (by decide) | exact Or.inr (by decide)))
  | with_reducible refine' rd_set ?_
  | with_reducible refine' rd_asg ?_
  | with_reducible refine' rd_cons ?_
  | with_reducible refine' rd_nil ?_
  | with_reducible refine' rd_call ?_
  | with_reducible refine' rd_cb ?_
  | with_reducible refine' rd_if ?_
  | with_reducible refine' rd_test ?_
  | with_reducible refine' rd_B ?_
  | with_reducible refine' rd_bl ?_
  | ((with_reducible refine' rd_eq ?h ?_); (case h => rfl))
  | ((with_reducible refine' rd_ne ?h ?_); (case h => rfl))
  | with_reducible refine' rd_not ?_
  | with_reducible refine' rd_and ?_
  | with_reducible refine' rd_or ?_
  | with_reducible refine' rd_notV ?_
  | with_reducible refine' rd_chain ?_
  | with_reducible refine' rd_ret ?_
  | with_reducible refine' rd_drop ?_
  | with_reducible refine' rd_next' ?_
  | with_reducible refine' rd_lst ?_
  | with_reducible refine' rd_tup ?_
  | with_reducible refine' rd_lc ?_
  | with_reducible refine' rd_rng1 ?_
  | with_reducible refine' rd_istr ?_
  | with_reducible refine' rd_ilst ?_
  | with_reducible refine' rd_ienum ?_
  | with_reducible refine' rd_bm0 ?_
  | with_reducible refine' rd_bm ?_
  | with_reducible refine' rd_m1 ?_
  | with_reducible refine' rd_sl ?_
  | with_reducible refine' rd_po0 ?_
  | with_reducible refine' rd_po1 ?_
  | with_reducible refine' rd_in ?_
  | with_reducible refine' rd_sub ?_
  | with_reducible refine' rd_ifE ?_
  | with_reducible refine' rd_un ?_
  | with_reducible refine' rd_U ?_
  | with_reducible refine' rd_brk ?_
  | with_reducible refine' rd_cont ?_
  | with_reducible refine' rd_yes ?_
  | with_reducible refine' rd_T ?_
  | with_reducible refine' rd_F ?_
  | with_reducible refine' rd_nT ?_
  | with_reducible refine' rd_nF ?_
  | with_reducible refine' rd_dni ?_
  | with_reducible refine' rd_di ?_
  | with_reducible refine' rd_dget ?_
  | with_reducible refine' rd_dget1 ?_
  | with_reducible refine' rd_dget2 ?_
  | with_reducible refine' rd_dget2N ?_
  | with_reducible refine' rd_dpop1 ?_
  | with_reducible refine' rd_ddel ?_
  | with_reducible refine' rd_mkN ?_
  | with_reducible refine' rd_mkV ?_
  | with_reducible refine' rd_dput ?_
  | with_reducible refine' rd_dnew ?_
  | with_reducible refine' rd_ikeys ?_
  | with_reducible refine' rd_gn ?_
  | with_reducible refine' rd_for ?_
  | with_reducible refine' rd_make ?_
  | with_reducible refine' rd_meth ?_
  | with_reducible refine' rd_fld ?_
  | with_reducible refine' rd_sfld ?_
  | with_reducible refine' rd_dc ?_
  | with_reducible refine' rd_items ?_
  | with_reducible refine' rd_sadd ?_
  | with_reducible refine' rd_ivals ?_
  | with_reducible refine' rd_callS ?_
  | with_reducible refine' rd_makeS ?_
  | with_reducible refine' rd_methS ?_
  | with_reducible refine' rd_fldH ?_
  | with_reducible refine' rd_mkO ?_)
local macro_rules | `(tactic| walk_at "sub") => `(tactic| repeat' (first | exact List.nil_sublist _ | exact List.Sublist.refl _ | apply List.Sublist.cons₂ | apply List.Sublist.cons))
local macro_rules | `(tactic| walk_at "rd") => `(tactic| repeat walk_at "rd1")

section
variable {P : Program} {w : World} {K : PySem.W.Frag} {mg : Str → Option Value} {base : Heap}
structure CPair (P : Program) (w : World) (K : PySem.W.Frag) (mg : Str → Option Value) (base : Heap) : Prop where
  is_name : Cl P w K mg base 1 "is_name" (spIsName K)
def spPair : Sp := fun vs H Q _ => ∃ row : Str, vs = [.str row] ∧ row.length ≤ 1000 ∧ (pairF row = none → ∀ H', Kp [] H H' → Q .non H') ∧
  (∀ e, pairF row = some e → ∀ H' t, H t = none → H' t = some (.tup [.str e.1, ov e.2]) → Kp [] H H' → Q (.ref t) H')
theorem ok__pair {f : Addr} {fd : FuncData} (F : Fun K "_pair" "_pair" s_pair f fd) (B : Blt mg) (C : CPair P w K mg base) (g_LET_GO : ∃ t, mg "LET_GO" = some (.str "-" t)) : FnOk P w K mg base CX0 2 f fd P_pair spPair := by
  refine F.ok sc_pair (fun vs H Q E h => by obtain ⟨row, rfl, _⟩ := h; rfl) (fun cdv A outer s0 H vs Q E hr h => ?_)
  obtain ⟨row, rfl, hl, q0, q1⟩ := h
  refine ⟨_, pss_cons (ps_asg (pe_partition (pv 0) pe_str) (pg_tup rfl (pgs_cons (pg_name (i := 1) sc_pair.nd rfl (Or.inl rfl)) (pgs_cons (pg_name (i := 2) sc_pair.nd rfl (Or.inl rfl)) (pgs_cons (pg_name (i := 3) sc_pair.nd rfl (Or.inl rfl)) pgs_nil)))))
  (pss_cons (ps_if (pt_not (pt_val (pe_cl C.is_name hr (by omega) (by rfl) (pa_cons (pv 1) pa_nil)))) (pss_one (ps_ret pe_non))
   (pss_nil))
  (pss_cons (ps_if (pt_cmpR op_eq (pv 3) (pe_gstr (by rfl) g_LET_GO) (nomark _)) (pss_one (ps_ret (pe_tup (pa_cons (pv 1) (pa_cons pe_non pa_nil)))))
   (pss_nil))
  (pss_cons (ps_if (pt_val (pe_cl C.is_name hr (by omega) (by rfl) (pa_cons (pv 3) pa_nil))) (pss_one (ps_ret (pe_tup (pa_cons (pv 1) (pa_cons (pv 3) pa_nil)))))
   (pss_nil))
  (pss_one (ps_ret pe_non))))), ?_⟩
  have A := At.nil H
  obtain ⟨l1, l2⟩ := part_len row
  unfold pairF at q0 q1
  walk_at "rd"
  refine ⟨⟨_, rfl⟩, ?_⟩
  walk_at "rd"
  refine ⟨_, _, rfl, rfl, by rfl, szn (by omega), fun p hp => ?_⟩
  generalize (Txt.partition row " ").1 = o at *
  generalize (Txt.partition row " ").2.2 = n at *
  generalize (Txt.partition row " ").2.1 = m at *
  have A1 := A.snoc hp (.tup [V.str o, .str m, .str n])
  revert A1
  generalize upd H p (.tup [V.str o, .str m, .str n]) = H1
  intro A1
  refine ⟨p, _, rfl, A1.tup 0 rfl, rfl, _, _, rfl, _, _, rfl, _, _, rfl, rfl, ?_⟩
  walk_at "rd"
  refine rd_name A1 (by omega) fun H2 A2 => ?_
  walk_at "rd"
  cases ho : nameOk o with
  | false =>
    rw [ho] at q0 q1
    walk_at "rd"
    exact q0 (if_neg (by decide)) H2 A2.keep
  | true =>
    rw [ho] at q0 q1
    walk_at "rd"
    refine rd_ite (fun he => ?_) (fun he => ?_)
    · have he : n = "-" := V.str.inj he
      walk_at "rd"
      refine ⟨szl, fun t ht => ?_⟩
      have A3 := A2.snoc ht (.tup [.str o, .non])
      exact q1 (o, none) (by rw [if_pos rfl, if_pos he]) _ t (A2.fresh0 ht) upd_same A3.keep
    · have he : n ≠ "-" := fun e => he (congrArg V.str e)
      walk_at "rd"
      refine rd_name A2 (by omega) fun H3 A3 => ?_
      walk_at "rd"
      cases hn : nameOk n with
      | true =>
        rw [hn] at q0 q1
        walk_at "rd"
        refine ⟨szl, fun t ht => ?_⟩
        have A4 := A3.snoc ht (.tup [.str o, .str n])
        exact q1 (o, some n) (by rw [if_pos rfl, if_neg he, if_pos rfl]) _ t (A3.fresh0 ht) upd_same A4.keep
      | false =>
        rw [hn] at q0 q1
        walk_at "rd"
        exact q0 (by rw [if_pos rfl, if_neg he, if_neg (by decide)]) H3 A3.keep
structure CPlanOf (P : Program) (w : World) (K : PySem.W.Frag) (mg : Str → Option Value) (base : Heap) : Prop where
  _pair : Cl P w K mg base 2 "_pair" spPair
structure MPlanOf (P : Program) (w : World) (K : PySem.W.Frag) (mg : Str → Option Value) (base : Heap) (Cp : Addr) : Prop where
  Plan : Mr P w K mg base 3 "Plan" Cp (spInit Cp)
structure RText (P : Program) (w : World) (K : PySem.W.Frag) (mg : Str → Option Value) (base : Heap) (Cs : ErrCs) : Prop where
  NoRow : ErrMk P w K mg base 1 "NoRow" Cs.row "row" okJ
/-- a new plan of these pairs -/
def NewP (C : Addr) (H : Hp) (prs : List (Str × Option Str)) (Q : VK) : Prop := ∀ H' p dx d lv, lv.Perm prs → sortedS (lv.map (·.1)) = true → H p = none → H d = none → H' p = some (.ins C dx [("_leads", .ref d)]) → H' d = some (.dK (dko lv)) → p ≠ d → Kp [] H H' → Q (.ref p) H'
def spPlanOf (K : PySem.W.Frag) (C : Addr) (Cs : ErrCs) : Sp := fun vs H Q E => ∃ (a : Addr) (rows : List Str) (fi : Int) (sp : Option Str), vs = [.ref a, .int fi, ov sp] ∧ SqL K H a (rows.map V.str) ∧ rows.length < 64 ∧ (∀ r ∈ rows, r.length ≤ 1000) ∧ 0 ≤ fi ∧ fi < 1000 ∧
  (∀ n, scanF sp [] rows = .inl n → Thrown Cs [] H E (.row (fi + n))) ∧ (∀ prs, scanF sp [] rows = .inr prs → NewP C H prs Q)
theorem ok_plan_of {f : Addr} {fd : FuncData} (F : Fun K "plan_of" "plan_of" splan_of f fd) (B : Blt mg) {Cp : Addr} {Cs : ErrCs} (C : CPlanOf P w K mg base) (M : MPlanOf P w K mg base Cp) (R : RText P w K mg base Cs) : FnOk P w K mg base (L2.CX P w) 5 f fd Pplan_of (spPlanOf K Cp Cs) := by
  refine fun_okCX F scplan_of (fun vs H Q E h => by obtain ⟨a, rows, fi, sp, rfl, _⟩ := h; rfl) (fun cdv A outer s0 H vs Q E hcd hr h => ?_)
  obtain ⟨a, rows, fi, sp, rfl, hS, hl, hrl, hf0, hf1, th, q⟩ := h
  refine ⟨_, pss_cons (ps_set (i := 3) scplan_of.nd rfl (Or.inl rfl) (pe_lst pa_nil))
  (pss_cons (ps_set (i := 4) scplan_of.nd rfl (Or.inl rfl) (pe_set1 (pv 2) rfl (kdsCode_of hcd) rfl))
  (pss_cons (ps_set (i := 5) scplan_of.nd rfl (Or.inl rfl) (pe_set1 (pv 2) rfl (kdsCode_of hcd) rfl))
  (pss_cons (ps_for (passes_of rfl) rfl (pi_enumS (by rfl) B.enumerate (pa_cons (pv 0) pa_nil) (pk_cons (pv 1) pk_nil)) (pg_tup rfl (pgs_cons (pg_name (i := 6) scplan_of.nd rfl (Or.inl rfl)) (pgs_cons (pg_name (i := 7) scplan_of.nd rfl (Or.inl rfl)) pgs_nil)))
   (pss_cons (ps_set (i := 8) scplan_of.nd rfl (Or.inl rfl) (pe_cl C._pair hr (by omega) (by rfl) (pa_cons (pv 7) pa_nil)))
  (pss_cons (ps_if (pt_cmpR op_isN (pv 8) pe_non (nomark _)) (pss_one (ps_raise rfl (takes_of rfl rfl rfl rfl) (pmk_err R.NoRow hr (by omega) (by rfl) (pv 6))))
   (pss_nil))
  (pss_cons (ps_asg (pv 8) (pg_tup rfl (pgs_cons (pg_name (i := 9) scplan_of.nd rfl (Or.inl rfl)) (pgs_cons (pg_name (i := 10) scplan_of.nd rfl (Or.inl rfl)) pgs_nil))))
  (pss_cons (ps_if (PW.pt (pw_or (pt_cmpR or_sinN (pv 9) (pv 4) (by rfl)) (pw_or1 (PW.pt (pw_and (pt_cmpR op_notN (pv 10) pe_non (nomark _)) (pw_and1 (pt_cmpR or_sinN (pv 10) (pv 5) (by rfl)))))))) (pss_one (ps_raise rfl (takes_of rfl rfl rfl rfl) (pmk_err R.NoRow hr (by omega) (by rfl) (pv 6))))
   (pss_nil))
  (pss_cons (ps_expr (pe_saddN (pv 4) (pa_cons (pv 9) pa_nil)))
  (pss_cons (ps_expr (pe_saddN (pv 5) (pa_cons (pv 10) pa_nil)))
  (pss_one (ps_expr (pe_bm PySem.F.plainAttrs_list PySem.F.slot_list_append PySem.F.type_list_append mt_append (pv 3) (pa_cons (pv 8) pa_nil)))))))))))
  (pss_one (ps_ret (pe_mr M.Plan hr (by omega) (by rfl) (pa_cons (pv 3) pa_nil))))))), ?_⟩
  have A := At.nil H
  walk_at "rd"
  refine ⟨szl, fun pp hpp => A.u1 hpp fun H1 A1 => ?_⟩
  walk_at "rd"
  refine rd_set1 ?_
  walk_at "rd"
  refine ⟨sp, rfl, fun po hpo => A1.u1 hpo fun H2 A2 => ?_⟩
  walk_at "rd"
  refine rd_set1 ?_
  walk_at "rd"
  refine ⟨sp, rfl, fun pn hpn => A2.u1 hpn fun H3 A3 => ?_⟩
  walk_at "rd"
  refine rd_ienumS ?_
  walk_at "rd"
  refine ⟨a, _, fi, rfl, rfl, A3.sq hS (by simp), by omega, by omega, ?_⟩
  refine forI (walk_enumS (c := fi) (xs := rows.map V.str)) (fun i σ H' => ∃ (te : List (Addr × (Str × Option Str))) (y6 y7 y8 y9 y10 : Option V), σ = [some (.ref a), some (.int fi), some (ov sp), some (.ref pp), some (.ref po), some (.ref pn), y6, y7, y8, y9, y10] ∧ scanF sp [] (rows.take i) = .inr (te.map (·.2)) ∧
      At [] H H' [(pp, .lst (te.map fun x : Addr × (Str × Option Str) => V.ref x.1)), (po, SetN P w po (sp :: (te.map (·.2)).map fun e : Str × Option Str => some e.1)), (pn, SetN P w pn (sp :: (te.map (·.2)).map fun e : Str × Option Str => e.2))] (te.map tP))
    ⟨[], _, _, _, _, _, rfl, rfl, A3⟩ (fun i σ H' _ ⟨_, _, _, _, _, _, _, _, A⟩ => A.sq hS (by simp)) ?_ ?_
  · rintro i x σ H4 H4' hi ⟨te, y6, y7, y8, y9, y10, rfl, hsc, A4⟩ ⟨T0, v1, x, rfl, hT0, rfl, e1, hi'⟩
    cases Option.some.inj e1
    have hi2 : i < rows.length := by rw [List.length_map] at hi; exact hi
    have hx : x = .str rows[i] := by
      have hi' : (rows.map V.str)[i]? = some x := hi'
      rw [List.getElem?_map, List.getElem?_eq_getElem hi2] at hi'
      exact (Option.some.inj hi').symm
    subst hx
    have A5 := A4.skip (Sk.of (o := .tup [.int (fi + (i : Nat)), .str rows[i]]) hT0)
    refine ⟨T0, [.int (fi + (i : Nat)), .str rows[i]], rfl, .inl (.inl upd_same), rfl, _, _, rfl, _, _, rfl, rfl, ?_⟩
    revert A5
    generalize upd H4 T0 (.tup [.int (fi + (i : Nat)), .str rows[i]]) = H5
    intro A5
    clear A4
    have htk : rows.take (i + 1) = rows.take i ++ [rows[i]] := by rw [List.take_add_one, List.getElem?_eq_getElem hi2]; rfl
    have htl : (te.map (·.2)).length = i := by
      have := (scan_ok RdOk.nil hsc).2
      rw [List.length_take] at this
      rw [this]
      show 0 + _ = _
      omega
    have htl2 : te.length = i := by rw [List.length_map] at htl; exact htl
    have hstep : scanF sp [] (rows.take (i + 1)) = (match okRow sp (te.map (·.2)) rows[i] with | none => .inl (te.map (·.2)).length | some e => .inr (te.map (·.2) ++ [e])) := by
      rw [htk, scan_snoc, hsc]
      all_goals rfl
    have bad : okRow sp (te.map (·.2)) rows[i] = none → Thrown Cs [] H E (.row (fi + (i : Nat))) := fun h => by
      rw [h] at hstep
      have := scan_stop (more := rows.drop (i + 1)) hstep
      rw [List.take_append_drop] at this
      rw [← htl]
      exact th _ this
    walk_at "rd"
    refine ⟨rows[i], rfl, hrl _ (List.getElem_mem hi2), fun hnp H6 k6 => ?_, fun e hpe H6 t ht ht' k6 => ?_⟩
    · have A6 := A5.c0 k6
      walk_at "rd"
      refine ⟨rfl, rd_bl ?_⟩
      refine rd_T ?_
      walk_at "rd"
      exact rd_err (fun b hb => ⟨_, rfl, by omega, by omega⟩) fun d hd => thrown_out (x := .row (fi + (i : Nat))) A6 (bad (by unfold okRow; rw [hnp])) (by intro h; cases h) (fun _ => rfl) hd
    · have A6 := A5.addT (A5.c0 k6) rfl [(t, .tup [.str e.1, ov e.2])] (fun x hx => by rw [List.mem_singleton] at hx; subst hx; exact ⟨ht, ht'⟩)
      walk_at "rd"
      refine ⟨rfl, rd_bl ?_⟩
      refine rd_F ?_
      walk_at "rd"
      refine ⟨t, [.str e.1, ov e.2], rfl, .inl (.inl ht'), rfl, _, _, rfl, _, _, rfl, rfl, ?_⟩
      walk_at "rd"
      obtain ⟨o, n⟩ := e
      refine ⟨some o, po, _, rfl, rfl, A6.get 1 rfl, rd_bl ?_⟩
      refine rd_ite (fun hin => ?_) (fun hno => ?_)
      · walk_at "rd"
        exact rd_err (fun b hb => ⟨_, rfl, by omega, by omega⟩) fun d hd => thrown_out (x := .row (fi + (i : Nat))) A6 (bad (by unfold okRow; rw [hpe]; exact if_pos (.inl hin))) (by intro h; cases h) (fun _ => rfl) hd
      walk_at "rd"
      refine ⟨rfl, rd_bl ?_⟩
      cases n with
      | none =>
        refine rd_iteN (fun h => absurd rfl h) (fun _ => ?_)
        have hok : okRow sp (te.map (·.2)) rows[i] = some (o, none) := by
          unfold okRow; rw [hpe]
          exact if_neg (fun h => h.elim hno (fun h => h.1 rfl))
        rw [hok] at hstep
        walk_at "rd"
        refine rd_saddN ?_
        walk_at "rd"
        refine ⟨⟨_, _, rfl, A6.get 1 rfl⟩, ?_⟩
        walk_at "rd"
        refine ⟨po, some o, _, rfl, rfl, A6.get 1 rfl, by rw [List.length_cons, List.length_map, htl]; omega, ?_⟩
        dsimp only
        refine A6.s1 1 rfl fun H7 A7 => ?_
        walk_at "rd"
        refine rd_saddN ?_
        walk_at "rd"
        refine ⟨⟨_, _, rfl, A7.get 2 rfl⟩, ?_⟩
        walk_at "rd"
        refine ⟨pn, none, _, rfl, rfl, A7.get 2 rfl, by rw [List.length_cons, List.length_map, htl]; omega, ?_⟩
        dsimp only
        refine A7.s1 2 rfl fun H8 A8 => ?_
        walk_at "rd"
        refine ⟨.inl ⟨rfl, _, A8.lst 0 rfl⟩, ?_⟩
        walk_at "rd"
        refine ⟨pp, _, _, rfl, rfl, A8.get 0 rfl, by rw [List.length_map, htl2]; exact szn' (by omega), ?_⟩
        have A9 := A8.set 0 rfl (.lst ((te.map fun x : Addr × (Str × Option Str) => V.ref x.1) ++ [.ref t]))
        refine ⟨te ++ [(t, (o, none))], _, _, _, _, _, rfl, by rw [List.map_append]; exact hstep, ?_⟩
        simp only [List.map_append, List.map_cons, List.map_nil]
        exact A9
      | some n =>
        refine rd_iteN (fun _ => ?_) (fun h => by cases h)
        walk_at "rd"
        refine ⟨some n, pn, _, rfl, rfl, A6.get 2 rfl, rd_bl ?_⟩
        refine rd_ite (fun hin => ?_) (fun hno2 => ?_)
        · walk_at "rd"
          exact rd_err (fun b hb => ⟨_, rfl, by omega, by omega⟩) fun d hd => thrown_out (x := .row (fi + (i : Nat))) A6 (bad (by unfold okRow; rw [hpe]; exact if_pos (.inr ⟨by simp, hin⟩))) (by intro h; cases h) (fun _ => rfl) hd
        have hok : okRow sp (te.map (·.2)) rows[i] = some (o, some n) := by
          unfold okRow; rw [hpe]
          exact if_neg (fun h => h.elim hno (fun h => hno2 h.2))
        rw [hok] at hstep
        walk_at "rd"
        refine rd_saddN ?_
        walk_at "rd"
        refine ⟨⟨_, _, rfl, A6.get 1 rfl⟩, ?_⟩
        walk_at "rd"
        refine ⟨po, some o, _, rfl, rfl, A6.get 1 rfl, by rw [List.length_cons, List.length_map, htl]; omega, ?_⟩
        dsimp only
        refine A6.s1 1 rfl fun H7 A7 => ?_
        walk_at "rd"
        refine rd_saddN ?_
        walk_at "rd"
        refine ⟨⟨_, _, rfl, A7.get 2 rfl⟩, ?_⟩
        walk_at "rd"
        refine ⟨pn, some n, _, rfl, rfl, A7.get 2 rfl, by rw [List.length_cons, List.length_map, htl]; omega, ?_⟩
        dsimp only
        refine A7.s1 2 rfl fun H8 A8 => ?_
        walk_at "rd"
        refine ⟨.inl ⟨rfl, _, A8.lst 0 rfl⟩, ?_⟩
        walk_at "rd"
        refine ⟨pp, _, _, rfl, rfl, A8.get 0 rfl, by rw [List.length_map, htl2]; exact szn' (by omega), ?_⟩
        have A9 := A8.set 0 rfl (.lst ((te.map fun x : Addr × (Str × Option Str) => V.ref x.1) ++ [.ref t]))
        refine ⟨te ++ [(t, (o, some n))], _, _, _, _, _, rfl, by rw [List.map_append]; exact hstep, ?_⟩
        simp only [List.map_append, List.map_cons, List.map_nil]
        exact A9
  · rintro σ H4 ⟨te, y6, y7, y8, y9, y10, rfl, hsc, A4⟩
    rw [List.length_map, List.take_length] at hsc
    obtain ⟨g, gl⟩ := scan_ok RdOk.nil hsc
    walk_at "rd"
    intro pl dx hpl hdx hne
    refine plan_new A4 hpl hdx hne (A4.get 0 rfl) (fun x hx => A4.tm x hx) ⟨g.old, g.new, g.oldsNd, g.newsNd, by rw [gl]; show 0 + _ < 64; omega⟩ fun H8 d lv hlv hso k8 A8 => ⟨rfl, ?_⟩
    exact q _ hsc H8 pl dx d lv hlv hso (A8.new0 3 rfl (by simp)) (A8.new0 4 rfl (by simp)) (A8.get 3 rfl) (A8.get 4 rfl) (A8.ne 3 4 rfl rfl (by decide)) A8.keep
end
end Nn

namespace Nn
open PySem PySem.Spec PyProof.Rows L2
local macro_rules | `(tactic| walk_at "rd1") => `(tactic| first
  | with_reducible refine' rd_c ?_
  | ((with_reducible refine' rd_var ?h ?_); (case h => rfl))
  | with_reducible refine' rd_op ?_
  | with_reducible refine' rd_I0 ?_
  | with_reducible refine' rd_seq ?_
  | ((with_reducible refine' rd_mod ?h ?_); (case h => decide))
  | ((with_reducible refine' rd_fdiv ?h ?_); (case h => exact ⟨by decide, by decide⟩))
  | ((with_reducible refine' rd_pow ?h ?_); (case h => exact ⟨by decide, by decide, by decide⟩))
  | ((with_reducible refine' rd_mul ?h ?_); (case h => first | exact Or.inl (by decide) | exact Or.inr (by decide)))
  | with_reducible refine' rd_set ?_
  | with_reducible refine' rd_asg ?_
  | with_reducible refine' rd_cons ?_
  | with_reducible refine' rd_nil ?_
  | with_reducible refine' rd_call ?_
  | with_reducible refine' rd_cb ?_
  | with_reducible refine' rd_if ?_
  | with_reducible refine' rd_test ?_
  | with_reducible refine' rd_B ?_
  | with_reducible refine' rd_bl ?_
  | ((with_reducible refine' rd_eq ?h ?_); (case h => rfl))
  | ((with_reducible refine' rd_ne ?h ?_); (case h => rfl))
  | with_reducible refine' rd_not ?_
  | with_reducible refine' rd_and ?_
  | with_reducible refine' rd_or ?_
  | with_reducible refine' rd_notV ?_
  | with_reducible refine' rd_chain ?_
  | with_reducible refine' rd_ret ?_
  | with_reducible refine' rd_drop ?_
  | with_reducible refine' rd_next' ?_
  | with_reducible refine' rd_lst ?_
  | with_reducible refine' rd_tup ?_
  | with_reducible refine' rd_lc ?_
  | with_reducible refine' rd_rng1 ?_
  | with_reducible refine' rd_istr ?_
  | with_reducible refine' rd_ilst ?_
  | with_reducible refine' rd_ienum ?_
  | with_reducible refine' rd_bm0 ?_
  | with_reducible refine' rd_bm ?_
  | with_reducible refine' rd_m1 ?_
  | with_reducible refine' rd_sl ?_
  | with_reducible refine' rd_po0 ?_
  | with_reducible refine' rd_po1 ?_
  | with_reducible refine' rd_in ?_
  | with_reducible refine' rd_sub ?_
  | with_reducible refine' rd_ifE ?_
  | with_reducible refine' rd_un ?_
  | with_reducible refine' rd_U ?_
  | with_reducible refine' rd_brk ?_
  | with_reducible refine' rd_cont ?_
  | with_reducible refine' rd_yes ?_
  | with_reducible refine' rd_T ?_
  | with_reducible refine' rd_F ?_
  | with_reducible refine' rd_nT ?_
  | with_reducible refine' rd_nF ?_
  | with_reducible refine' rd_dni ?_
  | with_reducible refine' rd_di ?_
  | with_reducible refine' rd_dget ?_
  | with_reducible refine' rd_dget1 ?_
  | with_reducible refine' rd_dget2 ?_
  | with_reducible refine' rd_dget2N ?_
  | with_reducible refine' rd_dpop1 ?_
  | with_reducible refine' rd_ddel ?_
  | with_reducible refine' rd_mkN ?_
  | with_reducible refine' rd_mkV ?_
  | with_reducible refine' rd_dput ?_
  | with_reducible refine' rd_dnew ?_
  | with_reducible refine' rd_ikeys ?_
  | with_reducible refine' rd_gn ?_
  | with_reducible refine' rd_for ?_
  | with_reducible refine' rd_make ?_
  | with_reducible refine' rd_meth ?_
  | with_reducible refine' rd_fld ?_
  | with_reducible refine' rd_sfld ?_
  | with_reducible refine' rd_dc ?_
  | with_reducible refine' rd_items ?_
  | with_reducible refine' rd_sadd ?_
  | with_reducible refine' rd_ivals ?_
  | with_reducible refine' rd_callS ?_
  | with_reducible refine' rd_makeS ?_
  | with_reducible refine' rd_methS ?_
  | with_reducible refine' rd_fldH ?_
  | with_reducible refine' rd_mkO ?_)
local macro_rules | `(tactic| walk_at "sub") => `(tactic| repeat' (first | exact List.nil_sublist _ | exact List.Sublist.refl _ | apply List.Sublist.cons₂ | apply List.Sublist.cons))
local macro_rules | `(tactic| walk_at "rd") => `(tactic| repeat walk_at "rd1")

theorem str_len0 {z : Str} : z.length = 0 ↔ z = "" := by
  constructor
  · intro h
    obtain ⟨c⟩ := z
    have : c = #[] := Array.eq_empty_of_size_eq_zero h
    rw [this]; rfl
  · intro h; rw [h]; rfl
theorem thrown_subT {Cs : ErrCs} {M : List Addr} {H0 H : Hp} {L T : List (Addr × HO)} {E : XK} {x : Flt} (A : At M H0 H L T) (th : Thrown Cs M H0 E x) : Thrown Cs [] H E x := by
  cases x with
  | name => exact fun H' k => th H' (A.c0 k).keep
  | _ => exact fun d fs H' hd k => th d fs H' (A.fresh0 hd) (A.c0 k).keep
/-- the text of a plan -/
def lineW (e : Str × Option Str) : Str := rowW e ++ "\n"
def textW (lv : List (Str × Option Str)) : Str := Txt.join "" (lv.map lineW)
theorem rowW_len {e : Str × Option Str} (h1 : nameOk e.1 = true) (h2 : ∀ z, e.2 = some z → nameOk z = true) : (rowW e).length ≤ 17 := by
  unfold rowW
  rw [Str.length_append, Str.length_append]
  have l1 := nameOk_len h1
  have l2 : (e.2.getD "-").length ≤ 8 := by
    cases h : e.2 with
    | none => decide +kernel
    | some z => exact (nameOk_len (h2 z h)).2
  have l3 : (" " : Str).length = 1 := by decide +kernel
  omega
theorem rd_js0 {out : Str} {σ : L2.St} {H : Hp} {Q : Str → Hp → Prop} (k : Q out H) : tJs [] out σ H Q := k
section
variable {P : Program} {w : World} {K : PySem.W.Frag} {mg : Str → Option Value} {base : Heap}
structure CRead (P : Program) (w : World) (K : PySem.W.Frag) (mg : Str → Option Value) (base : Heap) (Cp : Addr) (Cs : ErrCs) : Prop where
  plan_of : ClX P w K mg base 5 "plan_of" (spPlanOf K Cp Cs)
def spRead (C : Addr) (Cs : ErrCs) : Sp := fun vs H Q E => ∃ (text rest : Str) (ys : List Str), vs = [.str text] ∧ text.length ≤ 2000 ∧ Txt.split text "\n" = ys ++ [rest] ∧ ys.length < 64 ∧ (∀ r ∈ ys, r.length ≤ 1000) ∧ rest.length ≤ 2000 ∧
  (∀ n, readF ys rest = .inl n → Thrown Cs [] H E (.row n)) ∧ (∀ prs, readF ys rest = .inr prs → NewP C H prs Q)
theorem ok_read {f : Addr} {fd : FuncData} (F : Fun K "read" "read" sread f fd) (B : Blt mg) {Cp : Addr} {Cs : ErrCs} (C : CRead P w K mg base Cp Cs) (R : RText P w K mg base Cs) : FnOk P w K mg base (L2.CX P w) 6 f fd Pread (spRead Cp Cs) := by
  refine F.okX scread (fun vs H Q E h => by obtain ⟨text, rest, ys, rfl, _⟩ := h; rfl) (fun cdv A outer s0 H vs Q E hr h => ?_)
  obtain ⟨text, rest, ys, rfl, hl, hsp, hyl, hyr, hrl, th, q⟩ := h
  refine ⟨_, pss_cons (ps_set (i := 1) scread.nd rfl (Or.inl rfl) (pe_split (pv 0) pe_str))
  (pss_cons (ps_set (i := 2) scread.nd rfl (Or.inl rfl) (pe_bm0 PySem.F.plainAttrs_list PySem.F.slot_list_pop PySem.F.type_list_pop mt_pop (pv 1)))
  (pss_cons (ps_set (i := 3) scread.nd rfl (Or.inl rfl) (pe_clX (takes_of rfl rfl rfl rfl) C.plan_of hr (by omega) (by rfl) (pa_cons (pv 1) (pa_cons pe_int (pa_cons pe_non pa_nil)))))
  (pss_cons (ps_if (pt_truth (pv 2) (fun _ => rfl)) (pss_one (ps_raise rfl (takes_of rfl rfl rfl rfl) (pmk_err R.NoRow hr (by omega) (by rfl) (pe_callB call_len_seq (by rfl) B.len (by decide +kernel) (pa_cons (pv 1) pa_nil)))))
   (pss_nil))
  (pss_one (ps_ret (pv 3)))))), ?_⟩
  have A := At.nil H
  walk_at "rd"
  refine ⟨⟨_, rfl⟩, ?_⟩
  walk_at "rd"
  refine ⟨_, _, rfl, rfl, by rfl, szn (by omega), fun p hp => ?_⟩
  rw [hsp]
  refine A.u1 hp fun H1 A1 => ?_
  walk_at "rd"
  refine ⟨.inl ⟨rfl, _, A1.lst 0 rfl⟩, p, _, .str rest, rfl, rfl, A1.get 0 rfl, by rw [List.length_map, List.length_append, List.map_append]; show ((ys.map V.str) ++ [V.str rest])[ys.length + 1 - 1]? = _; rw [show ys.length + 1 - 1 = (ys.map V.str).length by rw [List.length_map]; omega, List.getElem?_concat_length], ?_⟩
  rw [List.map_append, show ([rest].map V.str) = [V.str rest] from rfl, List.dropLast_concat]
  refine A1.s1 0 rfl fun H2 A2 => ?_
  walk_at "rd"
  refine ⟨p, ys, 0, none, rfl, A2.lst 0 rfl, hyl, hyr, by decide, by decide, fun n hn => ?_, fun prs hprs H3 pl dx d lv hlv hso hpl hd hpl' hd' hne k3 => ?_⟩
  · rw [Int.zero_add]
    exact thrown_subT A2 (th n (by unfold readF; rw [hn]))
  have A3 := A2.c0 k3
  walk_at "rd"
  refine ⟨_, ⟨szn (by omega), rfl⟩, ?_⟩
  by_cases hr0 : rest = ""
  · rw [hr0, show (((("" : Str).length : Nat) : Int) != 0) = false by decide +kernel]
    walk_at "rd"
    exact q prs (by unfold readF; rw [hprs]; exact if_pos hr0) H3 pl dx d lv hlv hso (A2.fresh0 hpl) (A2.fresh0 hd) hpl' hd' hne A3.keep
  · rw [show (((rest.length : Nat) : Int) != 0) = true from bne_iff_ne.mpr (fun h => hr0 (str_len0.mp (by omega)))]
    walk_at "rd"
    refine ⟨p, _, rfl, .inl (A3.lst 0 rfl), ?_⟩
    rw [List.length_map]
    walk_at "rd"
    exact rd_err (fun b hb => ⟨_, rfl, by omega, by omega⟩) fun d hd => thrown_out (x := .row ys.length) A3 (th _ (by unfold readF; rw [hprs]; exact if_neg hr0)) (by intro h; cases h) (fun _ => rfl) hd
structure MRows (P : Program) (w : World) (K : PySem.W.Frag) (mg : Str → Option Value) (base : Heap) (Cp : Addr) : Prop where
  Plan_pairs : Mt P w K mg base 1 Cp "pairs" (spPairsM Cp)
def spRows (C : Addr) : Sp := fun vs H Q _ => ∃ (pl : Addr) (lv : List (Str × Option Str)), vs = [.ref pl] ∧ PlanAt C H pl lv ∧ Good lv ∧ ∀ H' p, H p = none → H' p = some (.lst ((lv.map rowW).map V.str)) → Kp [] H H' → Q (.ref p) H'
structure CWrit (P : Program) (w : World) (K : PySem.W.Frag) (mg : Str → Option Value) (base : Heap) (Cp : Addr) : Prop where
  pair_rows : Cl P w K mg base 2 "pair_rows" (spRows Cp)
def spWrit (C : Addr) : Sp := fun vs H Q _ => ∃ (pl : Addr) (lv : List (Str × Option Str)), vs = [.ref pl] ∧ PlanAt C H pl lv ∧ Good lv ∧ ∀ H', Kp [] H H' → Q (.str (textW lv)) H'
theorem lines_sum {lv : List (Str × Option Str)} (h : ∀ e ∈ lv, nameOk e.1 = true) (h2 : ∀ e ∈ lv, ∀ z, e.2 = some z → nameOk z = true) : ((lv.map lineW).map (·.length)).sum ≤ lv.length * 18 := by
  induction lv with
  | nil => exact Nat.le_refl _
  | cons e r ih =>
    have h1 := rowW_len (h e List.mem_cons_self) (h2 e List.mem_cons_self)
    have ih := ih (fun e he => h e (List.mem_cons_of_mem _ he)) (fun e he => h2 e (List.mem_cons_of_mem _ he))
    have hl : (lineW e).length = (rowW e).length + 1 := by unfold lineW; rw [Str.length_append]; rfl
    rw [List.map_cons, List.map_cons, List.sum_cons, List.length_cons, Nat.succ_mul]
    omega
end
end Nn

namespace Nn
open PySem PySem.Spec PyProof.Rows L2
/-! ### the text of a plan's pairs, in any order, read -/
theorem tl_line (e : Str × Option Str) : TL.tl (lineW e) = TL.tl (rowW e) ++ [10] := by unfold lineW; rw [TL.tl_append, tl_nl]
theorem joinL_nil : ∀ l : List (List Nat), TL.joinL [] l = l.flatten
  | [] => rfl
  | [p] => by rw [List.flatten_cons, List.flatten_nil, List.append_nil]; rfl
  | p :: q :: r => by
    show p ++ ([] ++ TL.joinL [] (q :: r)) = _
    rw [joinL_nil (q :: r), List.nil_append]; rfl
theorem joinL_rows : ∀ l : List (List Nat), TL.joinL [10] (l ++ [[]]) = (l.map (· ++ [10])).flatten
  | [] => rfl
  | [p] => by
    show p ++ ([10] ++ []) = (p ++ [10]) ++ []
    rw [List.append_nil, List.append_nil]
  | p :: q :: r => by
    show p ++ ([10] ++ TL.joinL [10] ((q :: r) ++ [[]])) = (p ++ [10]) ++ ((q :: r).map (· ++ [10])).flatten
    rw [joinL_rows (q :: r), List.append_assoc]
theorem text_join (prs : List (Str × Option Str)) : textW prs = Txt.join "\n" (prs.map rowW ++ [("" : Str)]) := by
  refine TL.ext_tl ?_
  unfold textW
  rw [TL.join_eq, TL.join_eq, TL.tl_join, TL.tl_join, tl_nl, show TL.tl ("" : Str) = [] from rfl, joinL_nil, List.map_append, List.map_map, List.map_map]
  show _ = TL.joinL [10] (prs.map (TL.tl ∘ rowW) ++ [[]])
  rw [joinL_rows, List.map_map]
  refine congrArg List.flatten (List.map_congr_left fun e _ => ?_)
  exact tl_line e
theorem row_nl {e : Str × Option Str} (h1 : nameOk e.1 = true) (h2 : ∀ z, e.2 = some z → nameOk z = true) : 10 ∉ TL.tl (rowW e) := by
  unfold rowW
  rw [TL.tl_append, TL.tl_append, tl_sp]
  intro h
  rcases List.mem_append.mp h with h | h
  · rcases List.mem_append.mp h with h | h
    · exact name_no h1 (by decide) h
    · simp at h
  · cases he : e.2 with
    | none =>
      rw [he] at h
      exact absurd h (by show 10 ∉ TL.tl ("-" : Str); decide +kernel)
    | some z =>
      rw [he] at h
      exact name_no (h2 z he) (by decide) h
theorem text_split {prs : List (Str × Option Str)} (h1 : ∀ e ∈ prs, nameOk e.1 = true) (h2 : ∀ e ∈ prs, ∀ z, e.2 = some z → nameOk z = true) : Txt.split (textW prs) "\n" = prs.map rowW ++ [("" : Str)] := by
  rw [text_join]
  refine TL.split_join tl_nl (by decide +kernel) (by simp) fun p hp => ?_
  rcases List.mem_append.mp hp with hp | hp
  · obtain ⟨e, he, rfl⟩ := List.mem_map.mp hp
    exact row_nl (h1 e he) (h2 e he)
  · rw [List.mem_singleton] at hp
    rw [hp]
    decide +kernel
theorem text_len {prs : List (Str × Option Str)} (h1 : ∀ e ∈ prs, nameOk e.1 = true) (h2 : ∀ e ∈ prs, ∀ z, e.2 = some z → nameOk z = true) : (textW prs).length ≤ prs.length * 18 := by
  have hl : ∀ l : List Str, (Txt.join "" l).length = (l.map (·.length)).sum := fun l => by
    have e : (Txt.join "" l).length = (TL.joinL [] (l.map TL.tl)).length := by
      rw [TL.join_eq]
      have := congrArg List.length (TL.tl_join ("" : Str) l)
      rw [show TL.tl ("" : Str) = [] from rfl] at this
      rw [← this]
      exact (Array.length_toList).symm
    rw [e, joinL_nil, List.length_flatten, List.map_map]
    refine congrArg List.sum (List.map_congr_left fun x _ => ?_)
    exact Array.length_toList
  unfold textW
  rw [hl]
  exact lines_sum h1 h2
theorem read_text {prs : List (Str × Option Str)} (g : Good prs) : readF (prs.map rowW) "" = .inr prs := by
  unfold readF
  rw [scan_rows (acc := []) ⟨g.old, g.new, g.oldsNd, g.newsNd⟩ (fun e _ => ⟨by simp, by
    cases h : e.2 with
    | none => exact .inl rfl
    | some z => exact .inr (by simp)⟩)]
  exact if_pos rfl
theorem perm_map_inv {α β : Type} {f : α → β} {ys zs : List β} (h : ys.Perm zs) : ∀ {l : List α}, zs = l.map f → ∃ l' : List α, l'.Perm l ∧ l'.map f = ys := by
  induction h with
  | nil =>
    intro l e
    cases l with
    | nil => exact ⟨[], .refl _, rfl⟩
    | cons a l => cases e
  | cons x h ih =>
    intro l e
    cases l with
    | nil => cases e
    | cons a l =>
      obtain ⟨e1, e2⟩ := List.cons.inj e
      obtain ⟨l', h1, h2⟩ := ih e2
      exact ⟨a :: l', h1.cons a, by rw [List.map_cons, h2, e1]⟩
  | swap x y l0 =>
    intro l e
    match l, e with
    | a :: b :: r, e =>
      obtain ⟨e1, e2⟩ := List.cons.inj e
      obtain ⟨e2, e3⟩ := List.cons.inj e2
      exact ⟨b :: a :: r, .swap a b r, by rw [List.map_cons, List.map_cons, e1, e2, e3]⟩
  | trans h1 h2 ih1 ih2 =>
    intro l e
    obtain ⟨l2, p2, e2⟩ := ih2 e
    obtain ⟨l1, p1, e1⟩ := ih1 e2.symm
    exact ⟨l1, p1.trans p2, e1⟩
theorem row_sign {e : Str × Option Str} (h1 : nameOk e.1 = true) (h2 : ∀ z, e.2 = some z → nameOk z = true) : ∀ c ∈ TL.tl (rowW e), c < 200 := by
  unfold rowW
  intro c hc
  rw [TL.tl_append, TL.tl_append, tl_sp] at hc
  rcases List.mem_append.mp hc with h | h
  · rcases List.mem_append.mp h with h | h
    · have := signOk_lt (nameOk_sign h1 c h); omega
    · rw [List.mem_singleton] at h; omega
  · cases he : e.2 with
    | none =>
      rw [he] at h
      have : ∀ c ∈ TL.tl ("-" : Str), c < 200 := by decide +kernel
      exact this c h
    | some z =>
      rw [he] at h
      have := signOk_lt (nameOk_sign (h2 z he) c h); omega
theorem line_sign {e : Str × Option Str} (h1 : nameOk e.1 = true) (h2 : ∀ z, e.2 = some z → nameOk z = true) : ∀ c ∈ TL.tl (lineW e), c < 200 := fun c hc => by
  rw [tl_line] at hc
  rcases List.mem_append.mp hc with h | h
  · exact row_sign h1 h2 c h
  · rw [List.mem_singleton] at h; omega
theorem text_sign {prs : List (Str × Option Str)} (g : Good prs) : ∀ c ∈ TL.tl (textW prs), c < 200 := fun c hc => by
  unfold textW at hc
  rw [TL.join_eq, TL.tl_join, show TL.tl ("" : Str) = [] from rfl, joinL_nil] at hc
  obtain ⟨l, hl, hc⟩ := List.mem_flatten.mp hc
  rw [List.map_map] at hl
  obtain ⟨e, he, rfl⟩ := List.mem_map.mp hl
  exact line_sign (g.old e he) (g.new e he) c hc
theorem text_ok {prs : List (Str × Option Str)} (g : Good prs) : PyData.strOk (textW prs) = true := strOk_tl fun c hc => by have := text_sign g c hc; omega
section
variable {P : Program} {w : World} {K : PySem.W.Frag} {mg : Str → Option Value} {base : Heap}
/-- read, where the text is a plan's -/
def spReadN (C : Addr) : Sp := fun vs H Q _ => ∃ (prs : List (Str × Option Str)), vs = [.str (textW prs)] ∧ Good prs ∧ NewP C H prs Q
theorem readN {k : Nat} {C : Addr} {Cs : ErrCs} (c : ClX P w K mg base k "read" (spRead C Cs)) : Cl P w K mg base k "read" (spReadN C) :=
  c.noX fun vs H Q E ⟨prs, e, g, q⟩ => ⟨textW prs, "", prs.map rowW, e, by
      have := text_len g.old g.new
      have := g.len
      omega, text_split g.old g.new, by rw [List.length_map]; exact g.len, fun r hr => by
      obtain ⟨x, hx, rfl⟩ := List.mem_map.mp hr
      have := rowW_len (g.old x hx) (g.new x hx)
      omega, by decide +kernel, (fun n hn => by rw [read_text g] at hn; cases hn), (fun prs' hp => by rw [read_text g] at hp; cases hp; exact q)⟩
end
end Nn

namespace Nn
open PySem PySem.Spec PyProof.Rows L2
/-! ### texts taken apart, texts spoilt: the data -/
theorem parts_of (s : Nat) : ∀ l : List Nat, ∃ qs : List (List Nat), qs ≠ [] ∧ l = TL.joinL [s] qs ∧ ∀ q ∈ qs, s ∉ q
  | [] => ⟨[[]], by simp, rfl, by simp⟩
  | c :: r => by
    obtain ⟨qs, h1, h2, h3⟩ := parts_of s r
    by_cases hc : c = s
    · refine ⟨[] :: qs, by simp, ?_, fun q hq => ?_⟩
      · cases qs with
        | nil => exact absurd rfl h1
        | cons q qs =>
          show c :: r = [] ++ ([s] ++ TL.joinL [s] (q :: qs))
          rw [← h2, hc]; rfl
      · rcases List.mem_cons.mp hq with e | hq
        · rw [e]; simp
        · exact h3 q hq
    · cases qs with
      | nil => exact absurd rfl h1
      | cons q qs =>
        refine ⟨(c :: q) :: qs, by simp, ?_, fun p hp => ?_⟩
        · cases qs with
          | nil => exact congrArg (c :: ·) h2
          | cons q' qs =>
            show c :: r = (c :: q) ++ ([s] ++ TL.joinL [s] (q' :: qs))
            rw [h2]; rfl
        · rcases List.mem_cons.mp hp with e | hp
          · rw [e]
            exact fun hm => (List.mem_cons.mp hm).elim (fun e => hc e.symm) (h3 q List.mem_cons_self)
          · exact h3 p (List.mem_cons_of_mem _ hp)
theorem split_parts {y : Str} {s : Nat} (ey : TL.tl y = [s]) (hk : y.cps.all (· < 256) = true) (t : Str) : ∃ ps : List Str, Txt.split t y = ps ∧ ps ≠ [] ∧ TL.tl t = TL.joinL [s] (ps.map TL.tl) ∧ ∀ p ∈ ps, s ∉ TL.tl p := by
  obtain ⟨qs, h1, h2, h3⟩ := parts_of s (TL.tl t)
  have em : (qs.map SX.S).map TL.tl = qs := by
    rw [List.map_map]
    exact (List.map_congr_left fun x _ => rfl).trans (List.map_id qs)
  have hp : ∀ p ∈ qs.map SX.S, s ∉ TL.tl p := fun p hp => by
    obtain ⟨q, hq, rfl⟩ := List.mem_map.mp hp
    exact h3 q hq
  have et : t = Txt.join y (qs.map SX.S) := TL.ext_tl (by rw [TL.join_eq, TL.tl_join, ey, em, ← h2])
  refine ⟨qs.map SX.S, ?_, fun e => h1 (List.map_eq_nil_iff.mp e), by rw [em]; exact h2, hp⟩
  conv => lhs; rw [et]
  exact TL.split_join ey hk (fun e => h1 (List.map_eq_nil_iff.mp e)) hp
theorem joinL_len (s : Nat) : ∀ {qs : List (List Nat)}, qs ≠ [] → (TL.joinL [s] qs).length + 1 = (qs.map fun q => q.length + 1).sum
  | [], h => absurd rfl h
  | [p], _ => by
    show p.length + 1 = (p.length + 1) + 0
    rfl
  | p :: q :: r, _ => by
    show (p ++ ([s] ++ TL.joinL [s] (q :: r))).length + 1 = (p.length + 1) + ((q :: r).map fun q => q.length + 1).sum
    rw [← joinL_len s (List.cons_ne_nil q r), List.length_append, List.length_append, List.length_singleton]
    omega
theorem joinL_count (s : Nat) : ∀ {qs : List (List Nat)}, qs ≠ [] → (∀ q ∈ qs, s ∉ q) → (TL.joinL [s] qs).count s + 1 = qs.length
  | [], h, _ => absurd rfl h
  | [p], _, hp => by
    show p.count s + 1 = 1
    rw [List.count_eq_zero.mpr (hp p (by simp))]
  | p :: q :: r, _, hp => by
    show (p ++ ([s] ++ TL.joinL [s] (q :: r))).count s + 1 = (q :: r).length + 1
    rw [← joinL_count s (List.cons_ne_nil q r) (fun x hx => hp x (List.mem_cons_of_mem _ hx)), List.count_append, List.count_append, List.count_eq_zero.mpr (hp p (by simp)), List.count_singleton_self]
    omega
theorem joinL_mem (s : Nat) : ∀ {qs : List (List Nat)} {c : Nat}, c ∈ TL.joinL [s] qs → c = s ∨ ∃ q ∈ qs, c ∈ q
  | [], _, h => by cases h
  | [p], _, h => .inr ⟨p, by simp, h⟩
  | p :: q :: r, c, h => by
    have h : c ∈ p ++ ([s] ++ TL.joinL [s] (q :: r)) := h
    rcases List.mem_append.mp h with h | h
    · exact .inr ⟨p, by simp, h⟩
    · rcases List.mem_append.mp h with h | h
      · exact .inl (List.mem_singleton.mp h)
      · rcases joinL_mem s h with h | ⟨x, hx, h⟩
        · exact .inl h
        · exact .inr ⟨x, List.mem_cons_of_mem _ hx, h⟩
theorem mem_joinL (s : Nat) : ∀ {qs : List (List Nat)} {q : List Nat} {c : Nat}, q ∈ qs → c ∈ q → c ∈ TL.joinL [s] qs
  | [], _, _, h, _ => by cases h
  | [p], q, c, h, hc => by rw [List.mem_singleton] at h; rw [h] at hc; exact hc
  | p :: q' :: r, q, c, h, hc => by
    show c ∈ p ++ ([s] ++ TL.joinL [s] (q' :: r))
    rcases List.mem_cons.mp h with e | h
    · exact List.mem_append_left _ (e ▸ hc)
    · exact List.mem_append_right _ (List.mem_append_right _ (mem_joinL s h hc))
theorem sum_mem {l : List Nat} {x : Nat} (h : x ∈ l) : x ≤ l.sum := by
  induction l with
  | nil => cases h
  | cons y r ih =>
    rw [List.sum_cons]
    rcases List.mem_cons.mp h with e | h
    · omega
    · have := ih h; omega
/-- a text with few signs and few rows -/
structure Bd (n r : Nat) (t : Str) : Prop where
  len : t.length ≤ n
  cnt : (TL.tl t).count 10 ≤ r
  sg : ∀ c ∈ TL.tl t, c < 200
theorem Bd.ok {n r : Nat} {t : Str} (b : Bd n r t) : PyData.strOk t = true := strOk_tl fun c hc => by have := b.sg c hc; omega
/-- the rows of such a text -/
structure TRows (n r : Nat) (t : Str) (ys : List Str) (rest : Str) : Prop where
  sp : Txt.split t "\n" = ys ++ [rest]
  cnt : ys.length ≤ r
  row : ∀ p ∈ ys ++ [rest], p.length ≤ n ∧ (∀ c ∈ TL.tl p, c < 200) ∧ 10 ∉ TL.tl p
  sum : (ys.map fun p => p.length + 1).sum ≤ n
theorem Bd.rows {n r : Nat} {t : Str} (b : Bd n r t) : ∃ ys rest, TRows n r t ys rest := by
  obtain ⟨ps, h1, h2, h3, h4⟩ := split_parts tl_nl (by decide +kernel) t
  have ep : ps = ps.dropLast ++ [ps.getLast h2] := (List.dropLast_concat_getLast h2).symm
  have hne : ps.map TL.tl ≠ [] := fun e => h2 (List.map_eq_nil_iff.mp e)
  have hl := joinL_len 10 hne
  rw [← h3, ← TL.len_tl, List.map_map] at hl
  have hm : ((fun q : List Nat => q.length + 1) ∘ TL.tl) = fun p : Str => p.length + 1 := by funext p; show (TL.tl p).length + 1 = _; rw [← TL.len_tl]
  rw [hm] at hl
  have hc := joinL_count 10 hne (fun q hq => by
    obtain ⟨p, hp, rfl⟩ := List.mem_map.mp hq
    exact h4 p hp)
  rw [← h3, List.length_map] at hc
  have bl := b.len
  have bc := b.cnt
  refine ⟨ps.dropLast, ps.getLast h2, h1.trans ep, ?_, fun p hp => ?_, ?_⟩
  · rw [List.length_dropLast]; omega
  · rw [← ep] at hp
    have := sum_mem (List.mem_map_of_mem (f := fun p : Str => p.length + 1) hp)
    exact ⟨by omega, fun c hc => b.sg c (by rw [h3]; exact mem_joinL 10 (List.mem_map_of_mem hp) hc), h4 p hp⟩
  · have : (ps.map fun p : Str => p.length + 1).sum = (ps.dropLast.map fun p : Str => p.length + 1).sum + ((ps.getLast h2).length + 1) := by
      conv => lhs; rw [ep, List.map_append, List.sum_append]
      rfl
    omega
theorem TRows.short {n r : Nat} {t : Str} {ys : List Str} {rest : Str} (R : TRows n r t ys rest) (hn : n ≤ 1000) {p : Str} (hp : p ∈ ys ++ [rest]) : Short p := by
  obtain ⟨h1, h2, _⟩ := R.row p hp
  exact ⟨by omega, strOk_tl fun c hc => by have := h2 c hc; omega⟩
/-! ### slices -/
theorem slice_tl (z : Str) (lo hi : Option Int) : TL.tl (Txt.slice z lo hi) = ((TL.tl z).drop (HT.sIx z.length 0 lo)).take (HT.sIx z.length z.length hi - HT.sIx z.length 0 lo) := by rw [← C8.cutS_slice]; rfl
theorem slice_sub (z : Str) (lo hi : Option Int) : (TL.tl (Txt.slice z lo hi)).Sublist (TL.tl z) := by
  rw [slice_tl]
  exact (List.take_sublist _ _).trans (List.drop_sublist _ _)
theorem sIx_mono {n d e : Nat} {i j : Int} (h0 : 0 ≤ i) (h : i ≤ j) : HT.sIx n d (some i) ≤ HT.sIx n e (some j) := by
  show (if i < 0 then (i + (n : Int)).toNat else min i.toNat n) ≤ (if j < 0 then (j + (n : Int)).toNat else min j.toNat n)
  rw [if_neg (by omega), if_neg (by omega)]
  omega
theorem two_sub {α : Type} {l : List α} {a b : Nat} (h : a ≤ b) : (l.take a ++ l.drop b).Sublist l := by
  conv => rhs; rw [← List.take_append_drop a l]
  refine List.Sublist.append (List.Sublist.refl _) ?_
  have e : l.drop b = (l.drop a).drop (b - a) := by rw [List.drop_drop]; congr 1; omega
  rw [e]
  exact List.drop_sublist _ _
theorem slice_two (z : Str) {i j : Int} (h0 : 0 ≤ i) (h : i ≤ j) : (TL.tl (Txt.slice z none (some i)) ++ TL.tl (Txt.slice z (some j) none)).Sublist (TL.tl z) := by
  rw [slice_tl, slice_tl, HT.sIx_none, List.drop_zero, HT.sIx_none, TL.len_tl, ← List.length_drop, List.take_length, Nat.sub_zero]
  exact two_sub (sIx_mono h0 h)
theorem cut_two (xs : List V) {i j : Int} (h0 : 0 ≤ i) (h : i ≤ j) : ∃ a b, a ≤ b ∧ cutV xs none (some i) = xs.take a ∧ cutV xs (some j) none = xs.drop b := by
  refine ⟨HT.sIx xs.length xs.length (some i), HT.sIx xs.length 0 (some j), sIx_mono h0 h, ?_, ?_⟩
  · unfold cutV; rw [HT.sIx_none, List.drop_zero, Nat.sub_zero]
  · unfold cutV; rw [HT.sIx_none, ← List.length_drop, List.take_length]
theorem cut_last (xs : List V) (x : V) : cutV (xs ++ [x]) none (some (-1)) = xs := by
  unfold cutV
  rw [HT.sIx_none, List.drop_zero]
  have e : HT.sIx (xs ++ [x]).length (xs ++ [x]).length (some (-1)) - 0 = xs.length := by
    show (if (-1 : Int) < 0 then (-1 + ((xs ++ [x]).length : Int)).toNat else min (-1 : Int).toNat (xs ++ [x]).length) - 0 = _
    rw [if_pos (by decide), List.length_append, List.length_singleton]
    omega
  rw [e, List.take_left]
/-! ### what a spoilt text still is -/
theorem Bd.sub {n r : Nat} {t t' : Str} (b : Bd n r t) (h : (TL.tl t').Sublist (TL.tl t)) : Bd n r t' := by
  have h1 := h.length_le
  have h2 := h.count_le 10
  have b1 := b.len
  have b2 := b.cnt
  rw [TL.len_tl] at b1
  exact ⟨by rw [TL.len_tl]; omega, by omega, fun c hc => b.sg c (h.subset hc)⟩
theorem Bd.mono {n r n' r' : Nat} {t : Str} (b : Bd n r t) (h1 : n ≤ n') (h2 : r ≤ r') : Bd n' r' t := ⟨Nat.le_trans b.len h1, Nat.le_trans b.cnt h2, b.sg⟩
/-- a sign between two parts -/
theorem Bd.ins {n r : Nat} {t a z b : Str} (g : Bd n r t) (h : (TL.tl a ++ TL.tl b).Sublist (TL.tl t)) (hz : z.length = 1) (hs : ∀ c ∈ TL.tl z, c < 200) : Bd (n + 1) (r + 1) (a ++ z ++ b) := by
  have h1 := h.length_le
  have h2 := h.count_le 10
  have b1 := g.len
  have b2 := g.cnt
  rw [TL.len_tl] at b1
  rw [List.length_append] at h1
  rw [List.count_append] at h2
  have hz' : (TL.tl z).length = 1 := by rw [← TL.len_tl]; exact hz
  have hzc : (TL.tl z).count 10 ≤ 1 := by rw [← hz']; exact List.count_le_length
  refine ⟨?_, ?_, fun c hc => ?_⟩
  · rw [TL.len_tl, TL.tl_append, TL.tl_append, List.length_append, List.length_append]; omega
  · rw [TL.tl_append, TL.tl_append, List.count_append, List.count_append]; omega
  · rw [TL.tl_append, TL.tl_append] at hc
    rcases List.mem_append.mp hc with hc | hc
    · rcases List.mem_append.mp hc with hc | hc
      · exact g.sg c (h.subset (List.mem_append_left _ hc))
      · exact hs c hc
    · exact g.sg c (h.subset (List.mem_append_right _ hc))
/-- rows joined anew -/
theorem rows_bd {n r m : Nat} {t : Str} {ys : List Str} {rest row : Str} {a b : Nat} (R : TRows n r t ys rest) (h : a ≤ b) (hr : row.length ≤ m) (hs : ∀ c ∈ TL.tl row, c < 200) (h10 : 10 ∉ TL.tl row) :
    Bd (n + m + 1) (r + 1) (Txt.join "\n" (ys.take a ++ [row] ++ ys.drop b) ++ "\n") := by
  have hsub := two_sub (l := ys) h
  have hrow : ∀ p ∈ ys.take a ++ [row] ++ ys.drop b, (∀ c ∈ TL.tl p, c < 200) ∧ 10 ∉ TL.tl p := fun p hp => by
    have go : p ∈ ys → (∀ c ∈ TL.tl p, c < 200) ∧ 10 ∉ TL.tl p := fun hp => (R.row p (List.mem_append_left _ hp)).2
    rcases List.mem_append.mp hp with hp | hp
    · rcases List.mem_append.mp hp with hp | hp
      · exact go (List.mem_of_mem_take hp)
      · rw [List.mem_singleton] at hp; rw [hp]; exact ⟨hs, h10⟩
    · exact go (List.mem_of_mem_drop hp)
  have h1 := hsub.length_le
  have h2 : ((ys.take a ++ ys.drop b).map fun p : Str => p.length + 1).sum ≤ (ys.map fun p : Str => p.length + 1).sum := by
    have hs2 := hsub.map fun p : Str => p.length + 1
    generalize (ys.take a ++ ys.drop b).map (fun p : Str => p.length + 1) = u at hs2 ⊢
    generalize ys.map (fun p : Str => p.length + 1) = v at hs2 ⊢
    induction hs2 with
    | slnil => exact Nat.le_refl _
    | cons x _ ih => rw [List.sum_cons]; omega
    | cons_cons x _ ih => rw [List.sum_cons, List.sum_cons]; omega
  have hsm := R.sum
  have hcn := R.cnt
  rw [List.map_append, List.sum_append] at h2
  rw [List.length_append] at h1
  have hne : (ys.take a ++ [row] ++ ys.drop b).map TL.tl ≠ [] := by simp
  have hl := joinL_len 10 hne
  have hc := joinL_count 10 hne (fun q hq => by
    obtain ⟨p, hp, rfl⟩ := List.mem_map.mp hq
    exact (hrow p hp).2)
  have et : TL.tl (Txt.join "\n" (ys.take a ++ [row] ++ ys.drop b) ++ "\n") = TL.joinL [10] ((ys.take a ++ [row] ++ ys.drop b).map TL.tl) ++ [10] := by rw [TL.tl_append, TL.join_eq, TL.tl_join, tl_nl]
  have hm : ((fun q : List Nat => q.length + 1) ∘ TL.tl) = fun p : Str => p.length + 1 := by funext p; show (TL.tl p).length + 1 = _; rw [← TL.len_tl]
  rw [List.map_map, hm] at hl
  have es : ((ys.take a ++ [row] ++ ys.drop b).map fun p : Str => p.length + 1).sum = ((ys.take a).map fun p : Str => p.length + 1).sum + ([row].map fun p : Str => p.length + 1).sum + ((ys.drop b).map fun p : Str => p.length + 1).sum := by
    rw [List.map_append, List.map_append, List.sum_append, List.sum_append]
  rw [es] at hl
  have hl1 : ([row].map fun p : Str => p.length + 1).sum = row.length + 1 := rfl
  rw [hl1] at hl
  rw [List.length_map, List.length_append, List.length_append, List.length_singleton] at hc
  refine ⟨?_, ?_, fun c hc => ?_⟩
  · rw [TL.len_tl, et, List.length_append, List.length_singleton]; omega
  · rw [et, List.count_append, List.count_singleton_self]; omega
  · rw [et] at hc
    rcases List.mem_append.mp hc with hc | hc
    · rcases joinL_mem 10 hc with e | ⟨q, hq, hc⟩
      · omega
      · obtain ⟨p, hp, rfl⟩ := List.mem_map.mp hq
        exact (hrow p hp).1 c hc
    · rw [List.mem_singleton] at hc; omega
/-! ### a row cut at all its blanks -/
theorem split_row (row : Str) : (∃ ws, Txt.split row " " = ws ∧ ws.length ≠ 2 ∧ ws ≠ [] ∧ (∀ p ∈ ws, p.length ≤ row.length) ∧ ws.length ≤ row.length + 1 ∧ pairF row = none) ∨
    ∃ a b : Str, Txt.split row " " = [a, b] ∧ Txt.partition row " " = (a, (" " : Str), b) ∧ a.length ≤ row.length ∧ b.length ≤ row.length ∧ (∀ c ∈ TL.tl a, c ∈ TL.tl row) ∧ ∀ c ∈ TL.tl b, c ∈ TL.tl row := by
  obtain ⟨ps, h1, h2, h3, h4⟩ := split_parts tl_sp (by decide +kernel) row
  have hne : ps.map TL.tl ≠ [] := fun e => h2 (List.map_eq_nil_iff.mp e)
  have hl := joinL_len 32 hne
  have hm : ((fun q : List Nat => q.length + 1) ∘ TL.tl) = fun p : Str => p.length + 1 := by funext p; show (TL.tl p).length + 1 = _; rw [← TL.len_tl]
  rw [← h3, ← TL.len_tl, List.map_map, hm] at hl
  have hlen : ∀ p ∈ ps, p.length ≤ row.length := fun p hp => by
    have := sum_mem (List.mem_map_of_mem (f := fun p : Str => p.length + 1) hp)
    omega
  have hcl : ps.length ≤ row.length + 1 := by
    rw [hl]
    clear hl hlen h1 h2 h3 h4 hne
    induction ps with
    | nil => exact Nat.zero_le _
    | cons p r ih => rw [List.map_cons, List.sum_cons, List.length_cons]; omega
  match ps, h1, h2, h3, h4, hlen, hcl with
  | [], _, h2, _, _, _, _ => exact absurd rfl h2
  | [p], h1, _, h3, h4, hlen, hcl =>
    refine .inl ⟨[p], h1, by simp, by simp, hlen, hcl, ?_⟩
    have hp : row = p := TL.ext_tl h3
    have hpt : Txt.partition row " " = (row, Str.empty, Str.empty) := TL.partition_none tl_sp (by rw [hp]; exact h4 p (by simp))
    unfold pairF
    rw [hpt]
    dsimp only
    rw [if_neg (show ¬ Str.empty = ("-" : Str) by decide +kernel), if_neg (show ¬ nameOk Str.empty = true by decide +kernel)]
    exact ite_self _
  | [p, q], h1, _, h3, h4, hlen, hcl =>
    have er : row = p ++ " " ++ q := TL.ext_tl (by rw [h3, TL.tl_append, TL.tl_append, tl_sp, List.append_assoc]; rfl)
    refine .inr ⟨p, q, h1, ?_, hlen p (by simp), hlen q (by simp), fun c hc => ?_, fun c hc => ?_⟩
    · conv => lhs; rw [er]
      exact TL.partition_app tl_sp (h4 p (by simp))
    · rw [er, TL.tl_append, TL.tl_append]; exact List.mem_append_left _ (List.mem_append_left _ hc)
    · rw [er, TL.tl_append]; exact List.mem_append_right _ hc
  | p :: q :: q' :: r, h1, _, h3, h4, hlen, hcl =>
    refine .inl ⟨p :: q :: q' :: r, h1, by simp, by simp, hlen, hcl, ?_⟩
    have er : row = p ++ " " ++ SX.S (TL.tl q ++ ([32] ++ TL.joinL [32] ((q' :: r).map TL.tl))) := TL.ext_tl (by rw [h3, TL.tl_append, TL.tl_append, tl_sp, List.append_assoc]; rfl)
    have hpt : Txt.partition row " " = (p, (" " : Str), SX.S (TL.tl q ++ ([32] ++ TL.joinL [32] ((q' :: r).map TL.tl)))) := by
      conv => lhs; rw [er]
      exact TL.partition_app tl_sp (h4 p (by simp))
    have hin : 32 ∈ TL.tl (SX.S (TL.tl q ++ ([32] ++ TL.joinL [32] ((q' :: r).map TL.tl)))) := List.mem_append_right _ (List.mem_append_left _ (by simp))
    generalize SX.S (TL.tl q ++ ([32] ++ TL.joinL [32] ((q' :: r).map TL.tl))) = u at hpt hin
    unfold pairF
    rw [hpt]
    dsimp only
    have n1 : ¬ u = ("-" : Str) := fun e => by rw [e] at hin; exact absurd hin (by decide +kernel)
    have n2 : ¬ nameOk u = true := fun e => name_no e (by decide : 32 < 97) hin
    rw [if_neg n1, if_neg n2]
    exact ite_self _
end Nn

namespace Nn
open PySem PySem.Spec PyProof.Rows L2
local macro_rules | `(tactic| walk_at "rd1") => `(tactic| first
  | with_reducible refine' rd_c ?_
  | ((with_reducible refine' rd_var ?h ?_); (case h => rfl))
  | with_reducible refine' rd_op ?_
  | with_reducible refine' rd_I0 ?_
  | with_reducible refine' rd_seq ?_
  | ((with_reducible refine' rd_mod ?h ?_); (case h => decide))
  | ((with_reducible refine' rd_fdiv ?h ?_); (case h => exact ⟨by decide, by decide⟩))
  | ((with_reducible refine' rd_pow ?h ?_); (case h => exact ⟨by decide, by decide, by decide⟩))
  | ((with_reducible refine' rd_mul ?h ?_); (case h => first | exact Or.inl (by decide) | exact Or.inr (by decide)))
  | with_reducible refine' rd_set ?_
  | with_reducible refine' rd_asg ?_
  | with_reducible refine' rd_cons ?_
  | with_reducible refine' rd_nil ?_
  | with_reducible refine' rd_call ?_
  | with_reducible refine' rd_cb ?_
  | with_reducible refine' rd_if ?_
  | with_reducible refine' rd_test ?_
  | with_reducible refine' rd_B ?_
  | with_reducible refine' rd_bl ?_
  | ((with_reducible refine' rd_eq ?h ?_); (case h => rfl))
  | ((with_reducible refine' rd_ne ?h ?_); (case h => rfl))
  | with_reducible refine' rd_not ?_
  | with_reducible refine' rd_and ?_
  | with_reducible refine' rd_or ?_
  | with_reducible refine' rd_notV ?_
  | with_reducible refine' rd_chain ?_
  | with_reducible refine' rd_ret ?_
  | with_reducible refine' rd_drop ?_
  | with_reducible refine' rd_next' ?_
  | with_reducible refine' rd_lst ?_
  | with_reducible refine' rd_tup ?_
  | with_reducible refine' rd_lc ?_
  | with_reducible refine' rd_rng1 ?_
  | with_reducible refine' rd_istr ?_
  | with_reducible refine' rd_ilst ?_
  | with_reducible refine' rd_ienum ?_
  | with_reducible refine' rd_bm0 ?_
  | with_reducible refine' rd_bm ?_
  | with_reducible refine' rd_m1 ?_
  | with_reducible refine' rd_sl ?_
  | with_reducible refine' rd_po0 ?_
  | with_reducible refine' rd_po1 ?_
  | with_reducible refine' rd_in ?_
  | with_reducible refine' rd_sub ?_
  | with_reducible refine' rd_ifE ?_
  | with_reducible refine' rd_un ?_
  | with_reducible refine' rd_U ?_
  | with_reducible refine' rd_brk ?_
  | with_reducible refine' rd_cont ?_
  | with_reducible refine' rd_yes ?_
  | with_reducible refine' rd_T ?_
  | with_reducible refine' rd_F ?_
  | with_reducible refine' rd_nT ?_
  | with_reducible refine' rd_nF ?_
  | with_reducible refine' rd_dni ?_
  | with_reducible refine' rd_di ?_
  | with_reducible refine' rd_dget ?_
  | with_reducible refine' rd_dget1 ?_
  | with_reducible refine' rd_dget2 ?_
  | with_reducible refine' rd_dget2N ?_
  | with_reducible refine' rd_dpop1 ?_
  | with_reducible refine' rd_ddel ?_
  | with_reducible refine' rd_mkN ?_
  | with_reducible refine' rd_mkV ?_
  | with_reducible refine' rd_dput ?_
  | with_reducible refine' rd_dnew ?_
  | with_reducible refine' rd_ikeys ?_
  | with_reducible refine' rd_gn ?_
  | with_reducible refine' rd_for ?_
  | with_reducible refine' rd_make ?_
  | with_reducible refine' rd_meth ?_
  | with_reducible refine' rd_fld ?_
  | with_reducible refine' rd_sfld ?_
  | with_reducible refine' rd_dc ?_
  | with_reducible refine' rd_items ?_
  | with_reducible refine' rd_sadd ?_
  | with_reducible refine' rd_ivals ?_
  | with_reducible refine' rd_callS ?_
  | with_reducible refine' rd_makeS ?_
  | with_reducible refine' rd_methS ?_
  | with_reducible refine' rd_fldH ?_
  | with_reducible refine' rd_mkO ?_)
local macro_rules | `(tactic| walk_at "sub") => `(tactic| repeat' (first | exact List.nil_sublist _ | exact List.Sublist.refl _ | apply List.Sublist.cons₂ | apply List.Sublist.cons))
local macro_rules | `(tactic| walk_at "rd") => `(tactic| repeat walk_at "rd1")

section
variable {P : Program} {w : World} {K : PySem.W.Frag} {mg : Str → Option Value} {base : Heap}
/-! ### the law's own look at a name -/
def spLName : Sp := fun vs H Q _ => ∃ z : Str, vs = [.str z] ∧ Short z ∧ ∀ H', Kp [] H H' → Q (.bl (nameOk z)) H'
theorem signs_ok {z : Str} (h : Short z) : ∀ c ∈ z.cps.toList, c < 0x110000 := by
  have := h.2
  unfold PyData.strOk at this
  rw [← Array.all_toList] at this
  exact fun c hc => of_decide_eq_true (List.all_eq_true.mp this c hc)
theorem sgs_ok' {l : List Nat} (h : ∀ c ∈ l, c < 0x110000) : ∀ z ∈ sgs l, PyData.strOk z = true := by
  intro z hz
  obtain ⟨c, hc, rfl⟩ := List.mem_map.mp hz
  have := h c hc
  show (#[c] : Array Nat).all (· < 0x110000) = true
  simp
  omega
theorem ok__law_is_name {f : Addr} {fd : FuncData} (F : Fun K "_law_is_name" "_law_is_name" s_law_is_name f fd) (B : Blt mg) : FnOk P w K mg base CX0 1 f fd P_law_is_name spLName := by
  refine F.ok sc_law_is_name (fun vs H Q E h => by obtain ⟨z, rfl, _⟩ := h; rfl) (fun cdv A outer s0 H vs Q E hr h => ?_)
  obtain ⟨z, rfl, hz, q⟩ := h
  refine ⟨_, pss_one (ps_ret (pe_and (pe_cmpR op_lt pe_int (pe_callB call_len_str (by rfl) B.len (by decide +kernel) (pa_cons (pv 0) pa_nil)) (nomark _)) (pe_and (pe_cmpR op_lt (pe_callB call_len_str (by rfl) B.len (by decide +kernel) (pa_cons (pv 0) pa_nil)) pe_int (nomark _)) (pe_one (pe_cmpR (op_eqD hr.units) (pe_lc (own := [("_law_sign", 1)]) rfl sc_law_is_name.nd (pi_str (pv 0)) (blkOk_by (N := N_law_is_name) (sc := defScope s_law_is_name) (by decide +kernel)) (fun _ _ _ _ _ => (pg_name (i := 1) sc_law_is_name.nd rfl (Or.inl rfl))) (fun _ _ _ _ _ => pts_one (pt_not (pt_chain op_le_str op_le_str pe_str (pv 1) pe_str))) (fun _ _ _ _ _ => (pv 1))) (pe_lst pa_nil) (nomark _)))))), ?_⟩
  have A := At.nil H
  have hzl := hz.1
  have hlen : z.cps.toList.length = z.length := Array.length_toList
  walk_at "rd"
  refine rd_andV ?_
  walk_at "rd"
  refine ⟨z, rfl, szn (by omega), ?_⟩
  walk_at "rd"
  refine rd_ite (fun h1 => ?_) (fun h1 => ?_)
  · refine rd_andV ?_
    walk_at "rd"
    refine ⟨z, rfl, szn (by omega), ?_⟩
    walk_at "rd"
    refine rd_ite (fun h2 => ?_) (fun h2 => ?_)
    · walk_at "rd"
      refine ⟨z, rfl, fun D hD => ?_⟩
      refine lc_it walk_str (fun i H' => At [] H H' [(D, .lst (sg ((z.cps.toList.take i).filter fun c => !signOk c)))] []) (A.snoc hD _) (fun _ _ _ _ => trivial) ?_ ?_
      · rintro i x H1 H2 hi A1 ⟨rfl, c, hc, rfl⟩
        refine ⟨rfl, ?_⟩
        walk_at "rd"
        refine ⟨_, _, rfl, rfl, rd_bl ?_⟩
        have e1 : (!decide ((⟨#[c]⟩ : Str).cps.toList < ("a" : Str).cps.toList)) = decide (97 ≤ c) := by
          rw [cps_a, show (⟨#[c]⟩ : Str).cps.toList = [c] from rfl, ← decide_not]
          exact decide_eq_decide.mpr (by rw [lt1]; omega)
        have e2 : (!decide (("z" : Str).cps.toList < (⟨#[c]⟩ : Str).cps.toList)) = decide (c ≤ 122) := by
          rw [cps_z, show (⟨#[c]⟩ : Str).cps.toList = [c] from rfl, ← decide_not]
          exact decide_eq_decide.mpr (by rw [lt1]; omega)
        have hcl : z.cps.toList[i]? = some c := by rw [Array.getElem?_toList]; exact hc
        have et : (z.cps.toList.take (i + 1)).filter (fun c => !signOk c) = (z.cps.toList.take i).filter (fun c => !signOk c) ++ if signOk c = true then [] else [c] := by
          rw [List.take_add_one, hcl, List.filter_append]
          cases h : signOk c <;> simp [h]
        have hl : (sg ((z.cps.toList.take i).filter fun c => !signOk c)).length < sizeLine := by
          rw [sg_len]
          have := List.length_filter_le (fun c => !signOk c) (z.cps.toList.take i)
          rw [List.length_take] at this
          exact szn' (by omega)
        rw [e1]
        refine rd_ite (fun h3 => ?_) (fun h3 => ?_)
        · walk_at "rd"
          refine ⟨_, _, rfl, rfl, rd_bl ?_⟩
          rw [e2]
          have e3 : signOk c = decide (c ≤ 122) := by unfold signOk; rw [decide_eq_true h3, Bool.true_and]
          refine rd_iteN (fun h4 => ?_) (fun h4 => ?_)
          · walk_at "rd"
            refine ⟨_, A1.get 0 rfl, hl, ?_⟩
            rw [et, if_neg (by rw [e3, decide_eq_false h4]; decide)]
            unfold sg at A1 ⊢
            rw [List.map_append]
            exact A1.set 0 rfl _
          · rw [et, if_pos (by rw [e3, decide_eq_true h4]), List.append_nil]
            exact A1
        · walk_at "rd"
          have e3 : signOk c = false := by unfold signOk; rw [decide_eq_false h3, Bool.false_and]
          refine ⟨_, A1.get 0 rfl, hl, ?_⟩
          rw [et, if_neg (by rw [e3]; decide)]
          unfold sg at A1 ⊢
          rw [List.map_append]
          exact A1.set 0 rfl _
      · intro H1 A1
        rw [show z.cps.size = z.cps.toList.length from (Array.length_toList).symm, List.take_length] at A1
        walk_at "rd"
        refine ⟨szl, fun e he => ?_⟩
        have A2 := A1.skip (Sk.of (o := .lst []) he)
        refine ⟨.list ((sgs (z.cps.toList.filter fun c => !signOk c)).map PyData.str), .list [], ?_, .lst (.inl (.inl upd_same)) .nil, shaped_strs (sgs_ok' fun c hc => signs_ok hz c ((List.mem_filter.mp hc).1)), rfl, ?_⟩
        · have := A2.lst (K := K) 0 rfl
          rw [sg_sgs] at this
          exact .lst this (dp_strs _)
        rw [eqv_nil]
        have en : nameOk z = decide (z.cps.toList.filter (fun c => !signOk c) = []) := by
          unfold nameOk
          rw [decide_eq_true (by omega), Bool.true_and]
          cases h : z.cps.toList.all signOk with
          | true => exact (decide_eq_true (List.filter_eq_nil_iff.mpr fun c hc => by simp [List.all_eq_true.mp h c hc])).symm
          | false =>
            refine (decide_eq_false fun e => ?_).symm
            rw [List.filter_eq_nil_iff] at e
            rw [show z.cps.toList.all signOk = true from List.all_eq_true.mpr fun c hc => by simpa using e c hc] at h
            cases h
        rw [← en]
        exact q _ A2.keep
    · walk_at "rd"
      have e : nameOk z = false := by unfold nameOk; rw [decide_eq_false (by omega)]; rfl
      rw [← e]
      exact q H (Kp.refl H)
  · walk_at "rd"
    have e : nameOk z = false := by unfold nameOk; rw [decide_eq_false (by omega)]; rfl
    rw [← e]
    exact q H (Kp.refl H)
end
end Nn

namespace Nn
open PySem PySem.Spec PyProof.Rows L2
local macro_rules | `(tactic| walk_at "rd1") => `(tactic| first
  | with_reducible refine' rd_c ?_
  | ((with_reducible refine' rd_var ?h ?_); (case h => rfl))
  | with_reducible refine' rd_op ?_
  | with_reducible refine' rd_I0 ?_
  | with_reducible refine' rd_seq ?_
  | ((with_reducible refine' rd_mod ?h ?_); (case h => decide))
  | ((with_reducible refine' rd_fdiv ?h ?_); (case h => exact ⟨by decide, by decide⟩))
  | ((with_reducible refine' rd_pow ?h ?_); (case h => exact ⟨by decide, by decide, by decide⟩))
  | ((with_reducible refine' rd_mul ?h ?_); (case h => first | exact Or.inl (by decide) | exact Or.inr (by decide)))
  | with_reducible refine' rd_set ?_
  | with_reducible refine' rd_asg ?_
  | with_reducible refine' rd_cons ?_
  | with_reducible refine' rd_nil ?_
  | with_reducible refine' rd_call ?_
  | with_reducible refine' rd_cb ?_
  | with_reducible refine' rd_if ?_
  | with_reducible refine' rd_test ?_
  | with_reducible refine' rd_B ?_
  | with_reducible refine' rd_bl ?_
  | ((with_reducible refine' rd_eq ?h ?_); (case h => rfl))
  | ((with_reducible refine' rd_ne ?h ?_); (case h => rfl))
  | with_reducible refine' rd_not ?_
  | with_reducible refine' rd_and ?_
  | with_reducible refine' rd_or ?_
  | with_reducible refine' rd_notV ?_
  | with_reducible refine' rd_chain ?_
  | with_reducible refine' rd_ret ?_
  | with_reducible refine' rd_drop ?_
  | with_reducible refine' rd_next' ?_
  | with_reducible refine' rd_lst ?_
  | with_reducible refine' rd_tup ?_
  | with_reducible refine' rd_lc ?_
  | with_reducible refine' rd_rng1 ?_
  | with_reducible refine' rd_istr ?_
  | with_reducible refine' rd_ilst ?_
  | with_reducible refine' rd_ienum ?_
  | with_reducible refine' rd_bm0 ?_
  | with_reducible refine' rd_bm ?_
  | with_reducible refine' rd_m1 ?_
  | with_reducible refine' rd_sl ?_
  | with_reducible refine' rd_po0 ?_
  | with_reducible refine' rd_po1 ?_
  | with_reducible refine' rd_in ?_
  | with_reducible refine' rd_sub ?_
  | with_reducible refine' rd_ifE ?_
  | with_reducible refine' rd_un ?_
  | with_reducible refine' rd_U ?_
  | with_reducible refine' rd_brk ?_
  | with_reducible refine' rd_cont ?_
  | with_reducible refine' rd_yes ?_
  | with_reducible refine' rd_T ?_
  | with_reducible refine' rd_F ?_
  | with_reducible refine' rd_nT ?_
  | with_reducible refine' rd_nF ?_
  | with_reducible refine' rd_dni ?_
  | with_reducible refine' rd_di ?_
  | with_reducible refine' rd_dget ?_
  | with_reducible refine' rd_dget1 ?_
  | with_reducible refine' rd_dget2 ?_
  | with_reducible refine' rd_dget2N ?_
  | with_reducible refine' rd_dpop1 ?_
  | with_reducible refine' rd_ddel ?_
  | with_reducible refine' rd_mkN ?_
  | with_reducible refine' rd_mkV ?_
  | with_reducible refine' rd_dput ?_
  | with_reducible refine' rd_dnew ?_
  | with_reducible refine' rd_ikeys ?_
  | with_reducible refine' rd_gn ?_
  | with_reducible refine' rd_for ?_
  | with_reducible refine' rd_make ?_
  | with_reducible refine' rd_meth ?_
  | with_reducible refine' rd_fld ?_
  | with_reducible refine' rd_sfld ?_
  | with_reducible refine' rd_dc ?_
  | with_reducible refine' rd_items ?_
  | with_reducible refine' rd_sadd ?_
  | with_reducible refine' rd_ivals ?_
  | with_reducible refine' rd_callS ?_
  | with_reducible refine' rd_makeS ?_
  | with_reducible refine' rd_methS ?_
  | with_reducible refine' rd_fldH ?_
  | with_reducible refine' rd_mkO ?_)
local macro_rules | `(tactic| walk_at "sub") => `(tactic| repeat' (first | exact List.nil_sublist _ | exact List.Sublist.refl _ | apply List.Sublist.cons₂ | apply List.Sublist.cons))
local macro_rules | `(tactic| walk_at "rd") => `(tactic| repeat walk_at "rd1")

section
variable {P : Program} {w : World} {K : PySem.W.Frag} {mg : Str → Option Value} {base : Heap}
/-! ### the law's own reading of a text -/
def Due16 (ys : List Str) (rest : Str) (d : PyData) : Prop :=
  (∀ n, readF ys rest = .inl n → d = .tuple [.str "row", .int n]) ∧ ∀ prs, readF ys rest = .inr prs → ∃ lv : List (Str × Option Str), lv.Perm prs ∧ sortedS (lv.map (·.1)) = true ∧ d = .tuple [.str "told", .list (lv.map dP)]
theorem readF_stop {ys : List Str} {rest : Str} {i n : Nat} (h : scanF none [] (ys.take i) = .inl n) : readF ys rest = .inl n := by
  have := scan_stop (more := ys.drop i) h
  rw [List.take_append_drop] at this
  unfold readF
  rw [this]
theorem readF_end {ys : List Str} {rest : Str} {prs : List (Str × Option Str)} (h : scanF none [] ys = .inr prs) : readF ys rest = if rest = "" then .inr prs else .inl ys.length := by
  unfold readF
  rw [h]
def spDue16 (K : PySem.W.Frag) : Sp := fun vs H Q _ => ∃ (t rest : Str) (ys : List Str) (n r : Nat), vs = [.str t] ∧ Bd n r t ∧ TRows n r t ys rest ∧ n ≤ 1000 ∧ r < 60 ∧
  ∀ H' v d, Due16 ys rest d → Kp [] H H' → (∀ G, Kp [] H' G → Dp K G v d) → Q v H'
structure CDue16 (P : Program) (w : World) (K : PySem.W.Frag) (mg : Str → Option Value) (base : Heap) : Prop where
  _law_is_name : Cl P w K mg base 1 "_law_is_name" spLName
  _law_by_olds : Cl P w K mg base 1 "_law_by_olds" spByOlds
theorem ok__law_due {f : Addr} {fd : FuncData} (F : Fun K "_law_due" "_law_due" s_law_due f fd) (B : Blt mg) (C : CDue16 P w K mg base) : FnOk P w K mg base CX0 2 f fd P_law_due (spDue16 K) := by
  refine F.ok sc_law_due (fun vs H Q E h => by obtain ⟨t, rest, ys, n, r, rfl, _⟩ := h; rfl) (fun cdv A outer s0 H vs Q E hr h => ?_)
  obtain ⟨t, rest, ys, n, r, rfl, hb, R, hn, hr60, q⟩ := h
  have hyl : ys.length < 60 := by have := R.cnt; omega
  refine ⟨_, pss_cons (ps_set (i := 1) sc_law_due.nd rfl (Or.inl rfl) (pe_split (pv 0) pe_str))
  (pss_cons (ps_set (i := 2) sc_law_due.nd rfl (Or.inl rfl) (pe_lst pa_nil))
  (pss_cons (ps_for PassesOwn.never rfl (pi_range1 (by rfl) B.range (pa_cons (pe_op op_sub (pe_callB call_len_seq (by rfl) B.len (by decide +kernel) (pa_cons (pv 1) pa_nil)) pe_int) pa_nil)) (pg_name (i := 3) sc_law_due.nd rfl (Or.inl rfl))
   (pss_cons (ps_set (i := 4) sc_law_due.nd rfl (Or.inl rfl) (pe_split (pe_ix ix_list (pv 1) (pv 3) (fun _ _ => rfl)) pe_str))
  (pss_cons (ps_if (PW.pt (pw_or (pt_cmpR op_ne (pe_callB call_len_seq (by rfl) B.len (by decide +kernel) (pa_cons (pv 4) pa_nil)) pe_int (nomark _)) (pw_or (pt_not (pt_val (pe_cl C._law_is_name hr (by omega) (by rfl) (pa_cons (pe_ix ix_list (pv 4) pe_int (fun _ _ => rfl)) pa_nil)))) (pw_or1 (PW.pt (pw_and (pt_cmpR op_ne (pe_ix ix_list (pv 4) pe_int (fun _ _ => rfl)) pe_str (nomark _)) (pw_and1 (pt_not (pt_val (pe_cl C._law_is_name hr (by omega) (by rfl) (pa_cons (pe_ix ix_list (pv 4) pe_int (fun _ _ => rfl)) pa_nil))))))))))) (pss_one (ps_ret (pe_tup (pa_cons pe_str (pa_cons (pv 3) pa_nil)))))
   (pss_nil))
  (pss_cons (ps_set (i := 5) sc_law_due.nd rfl (Or.inl rfl) (pe_ix ix_list (pe_lst (pa_cons (pe_ix ix_list (pv 4) pe_int (fun _ _ => rfl)) (pa_cons pe_non pa_nil))) (pe_callTy call_int1 (by rfl) B.int (by decide +kernel) (pa_cons (pe_cmpR op_eq (pe_ix ix_list (pv 4) pe_int (fun _ _ => rfl)) pe_str (nomark _)) pa_nil)) (fun _ _ => rfl)))
  (pss_cons (ps_if (PW.pt (pw_or (pt_cmpR op_in_seq (pe_ix ix_list (pv 4) pe_int (fun _ _ => rfl)) (pe_lc (own := [("_law_one", 6)]) rfl sc_law_due.nd (pi_list (pv 2)) (blkOk_by (N := N_law_due) (sc := defScope s_law_due) (by decide +kernel)) (fun _ _ _ _ _ => (pg_name (i := 6) sc_law_due.nd rfl (Or.inl rfl))) (fun _ _ _ _ _ => pts_nil) (fun _ _ _ _ _ => (pe_ix (ix_tup' (K := K) rfl) (pv 6) pe_int (fun _ _ => rfl)))) (by rfl)) (pw_or1 (PW.pt (pw_and (pt_cmpR op_notN (pv 5) pe_non (nomark _)) (pw_and1 (pt_cmpR op_in_seq (pv 5) (pe_lc (own := [("_law_one", 6)]) rfl sc_law_due.nd (pi_list (pv 2)) (blkOk_by (N := N_law_due) (sc := defScope s_law_due) (by decide +kernel)) (fun _ _ _ _ _ => (pg_name (i := 6) sc_law_due.nd rfl (Or.inl rfl))) (fun _ _ _ _ _ => pts_nil) (fun _ _ _ _ _ => (pe_ix (ix_tup' (K := K) rfl) (pv 6) pe_int (fun _ _ => rfl)))) (by rfl)))))))) (pss_one (ps_ret (pe_tup (pa_cons pe_str (pa_cons (pv 3) pa_nil)))))
   (pss_nil))
  (pss_one (ps_expr (pe_bm PySem.F.plainAttrs_list PySem.F.slot_list_append PySem.F.type_list_append mt_append (pv 2) (pa_cons (pe_tup (pa_cons (pe_ix ix_list (pv 4) pe_int (fun _ _ => rfl)) (pa_cons (pv 5) pa_nil))) pa_nil)))))))))
  (pss_cons (ps_if (pt_cmpR op_ne (pe_ix ix_list (pv 1) (pe_un un_neg pe_int) (fun _ _ => rfl)) pe_str (nomark _)) (pss_one (ps_ret (pe_tup (pa_cons pe_str (pa_cons (pe_op op_sub (pe_callB call_len_seq (by rfl) B.len (by decide +kernel) (pa_cons (pv 1) pa_nil)) pe_int) pa_nil)))))
   (pss_nil))
  (pss_one (ps_ret (pe_tup (pa_cons pe_str (pa_cons (pe_cl C._law_by_olds hr (by omega) (by rfl) (pa_cons (pv 2) pa_nil)) pa_nil)))))))), ?_⟩
  have A := At.nil H
  walk_at "rd"
  refine ⟨⟨_, rfl⟩, ?_⟩
  walk_at "rd"
  refine ⟨_, _, rfl, rfl, by rfl, szn (by have := hb.len; omega), fun pr hpr => ?_⟩
  rw [R.sp]
  refine A.u1 hpr fun H1 A1 => ?_
  walk_at "rd"
  refine ⟨szl, fun pp hpp => A1.u1 hpp fun H2 A2 => ?_⟩
  walk_at "rd"
  refine ⟨_, _, rfl, .inl (A2.lst 0 rfl), ?_⟩
  walk_at "rd"
  refine ⟨(ys.length : Nat), by rw [List.length_map, List.length_append, List.length_singleton]; congr 2; omega, by omega, by omega, ?_⟩
  refine forI (walk_range (lo := 0) (n := ys.length)) (fun i σ H' => ∃ (te : List (Addr × (Str × Option Str))) (y3 y4 y5 y6 : Option V), σ = [some (.str t), some (.ref pr), some (.ref pp), y3, y4, y5, y6] ∧ scanF none [] (ys.take i) = .inr (te.map (·.2)) ∧
      At [] H H' [(pr, .lst ((ys ++ [rest]).map V.str)), (pp, .lst (te.map fun x : Addr × (Str × Option Str) => V.ref x.1))] (te.map tP))
    ⟨[], _, _, _, _, rfl, rfl, A2⟩ (fun _ _ _ _ _ => trivial) ?_ ?_
  · rintro i x σ H3 H3' hi ⟨te, y3, y4, y5, y6, rfl, hsc, A3⟩ ⟨rfl, rfl⟩
    have htk : ys.take (i + 1) = ys.take i ++ [ys[i]] := by rw [List.take_add_one, List.getElem?_eq_getElem hi]; rfl
    have htl : (te.map (·.2)).length = i := by
      have := (scan_ok RdOk.nil hsc).2
      rw [List.length_take] at this
      rw [this]
      show 0 + _ = _
      omega
    have htl2 : te.length = i := by rw [List.length_map] at htl; exact htl
    have hstep : scanF none [] (ys.take (i + 1)) = (match okRow none (te.map (·.2)) ys[i] with | none => .inl (te.map (·.2)).length | some e => .inr (te.map (·.2) ++ [e])) := by
      rw [htk, scan_snoc, hsc]
      all_goals rfl
    have hyi : ys[i] ∈ ys ++ [rest] := List.mem_append_left _ (List.getElem_mem hi)
    have bad : okRow none (te.map (·.2)) ys[i] = none → ∀ {L T : List (Addr × HO)} {G : Hp}, At [] H G L T → ∀ p, G p = none → Q (.ref p) (upd G p (.tup [.str "row", .int (0 + (i : Nat))])) := fun h {L T G} A p hp => by
      rw [h] at hstep
      have hf := readF_stop (rest := rest) hstep
      rw [htl] at hf
      refine q _ _ (.tuple [.str "row", .int (i : Nat)]) ⟨fun n hn => ?_, fun prs hp => ?_⟩ (A.snoc hp _).keep fun G' k => .tup (.inl (.inl (k _ _ upd_same (by simp)))) (.cons (.str _) (.cons ?_ .nil))
      · rw [hf] at hn; cases hn; rfl
      · rw [hf] at hp; cases hp
      · rw [Int.zero_add]; exact .int _
    walk_at "rd"
    refine rd_ixL (A3.lst 0 rfl) (v := .str ys[i]) (by rw [Int.zero_add]; exact atI_nat (by rw [List.getElem?_map, List.getElem?_append_left hi, List.getElem?_eq_getElem hi]; rfl)) ?_
    refine ⟨⟨_, rfl⟩, ?_⟩
    walk_at "rd"
    obtain ⟨hl1, hl2, hl3⟩ := R.row _ hyi
    refine ⟨_, _, rfl, rfl, by rfl, szn (by omega), fun pw hpw => A3.u1 hpw fun H4 A4 => ?_⟩
    clear A3
    walk_at "rd"
    rcases split_row ys[i] with ⟨ws, hw, hw2, _, _, _, hpn⟩ | ⟨a, b, hw, hpt, ha, hbl, hac, hbc⟩
    · rw [hw] at A4
      refine ⟨_, _, rfl, .inl (A4.lst 2 rfl), ?_⟩
      rw [List.length_map]
      walk_at "rd"
      refine rd_iteN (fun _ => ?_) (fun h => absurd (by have := V.int.inj h; omega) hw2)
      walk_at "rd"
      exact ⟨szl, fun p hp => bad (by unfold okRow; rw [hpn]) A4 p hp⟩
    rw [hw] at A4
    have hsa : Short a := ⟨by omega, strOk_tl fun c hc => by have := hl2 c (hac c hc); omega⟩
    have hsb : Short b := ⟨by omega, strOk_tl fun c hc => by have := hl2 c (hbc c hc); omega⟩
    have hpf : pairF ys[i] = if nameOk a = true then if b = "-" then some (a, none) else if nameOk b = true then some (a, some b) else none else none := by
      unfold pairF
      rw [hpt]
    refine ⟨_, _, rfl, .inl (A4.lst 2 rfl), ?_⟩
    walk_at "rd"
    refine rd_iteN (fun h => absurd rfl h) (fun _ => ?_)
    walk_at "rd"
    refine rd_ixL (A4.lst 2 rfl) (v := .str a) (atI_nat (j := 0) rfl) ?_
    walk_at "rd"
    refine ⟨a, rfl, hsa, fun H5 k5 => ?_⟩
    have A5 := A4.c0 k5
    clear A4
    walk_at "rd"
    cases hna : nameOk a with
    | false =>
      rw [hna] at hpf
      walk_at "rd"
      exact ⟨szl, fun p hp => bad (by unfold okRow; rw [hpf]; rfl) A5 p hp⟩
    | true =>
    rw [hna, if_pos rfl] at hpf
    walk_at "rd"
    refine rd_ixL (A5.lst 2 rfl) (v := .str b) (atI_nat (j := 1) rfl) ?_
    walk_at "rd"
    -- the new name
    have hnew : (pairF ys[i] = none ∧ b ≠ "-" ∧ nameOk b = false) ∨ ∃ o : Option Str, pairF ys[i] = some (a, o) ∧ ((b = "-" ∧ o = none) ∨ (b ≠ "-" ∧ nameOk b = true ∧ o = some b)) := by
      by_cases hd : b = "-"
      · exact .inr ⟨none, by rw [hpf, if_pos hd], .inl ⟨hd, rfl⟩⟩
      · cases hnb : nameOk b with
        | true => exact .inr ⟨some b, by rw [hpf, if_neg hd, hnb, if_pos rfl], .inr ⟨hd, rfl, rfl⟩⟩
        | false => exact .inl ⟨by rw [hpf, if_neg hd, hnb]; rfl, hd, rfl⟩
    rcases hnew with ⟨hpn, hd, hnb⟩ | ⟨o, hpo, ho⟩
    · refine rd_iteN (fun _ => ?_) (fun h => absurd (V.str.inj h) hd)
      walk_at "rd"
      refine rd_ixL (A5.lst 2 rfl) (v := .str b) (atI_nat (j := 1) rfl) ?_
      walk_at "rd"
      refine ⟨b, rfl, hsb, fun H6 k6 => ?_⟩
      have A6 := A5.c0 k6
      rw [hnb]
      walk_at "rd"
      exact ⟨szl, fun p hp => bad (by unfold okRow; rw [hpn]) A6 p hp⟩
    have hob : (V.str b = V.str "-") ↔ o = none := by
      rcases ho with ⟨h1, h2⟩ | ⟨h1, _, h2⟩
      · rw [h1, h2]; exact ⟨fun _ => rfl, fun _ => rfl⟩
      · rw [h2]; exact ⟨fun h => absurd (V.str.inj h) h1, fun h => by cases h⟩
    have hov : ∀ z, o = some z → b = z := fun z hz => by
      rcases ho with ⟨_, h2⟩ | ⟨_, _, h2⟩
      · rw [h2] at hz; cases hz
      · rw [h2] at hz; exact Option.some.inj hz
    rcases ho with ⟨hd, _⟩ | ⟨hd, hnb, _⟩
    refine rd_iteN (fun h => absurd (congrArg V.str hd) h) (fun _ => ?_)
    have A6 := A5
    clear A5
    walk_at "rd"
    rotate_left
    refine rd_iteN (fun _ => ?_) (fun h => absurd (V.str.inj h) hd)
    walk_at "rd"
    refine rd_ixL (A5.lst 2 rfl) (v := .str b) (atI_nat (j := 1) rfl) ?_
    walk_at "rd"
    refine ⟨b, rfl, hsb, fun H6 k6 => ?_⟩
    have A6 := A5.c0 k6
    clear A5
    rw [hnb]
    walk_at "rd"
    all_goals
      refine rd_ixL (A6.lst 2 rfl) (v := .str b) (atI_nat (j := 1) rfl) ?_
      walk_at "rd"
      refine ⟨szl, fun pn hpn => A6.u2 hpn fun H7 A7 => ?_⟩
      clear A6
      walk_at "rd"
      refine rd_ixL (A7.lst 2 rfl) (v := .str b) (atI_nat (j := 1) rfl) ?_
      walk_at "rd"
      refine .inr ⟨_, rfl, ?_⟩
      refine rd_ixL (A7.lst 3 rfl) (v := ov o) ?_ ?_
      · by_cases hz : V.str b = V.str "-"
        · rw [decide_eq_true hz, hob.mp hz]
          exact atI_nat (j := 1) rfl
        · rw [decide_eq_false hz]
          cases o with
          | none => exact absurd (hob.mpr rfl) hz
          | some z => rw [hov z rfl]; exact atI_nat (j := 0) rfl
      walk_at "rd"
      refine rd_ixL (A7.lst 2 rfl) (v := .str a) (atI_nat (j := 0) rfl) ?_
      walk_at "rd"
      refine ⟨pp, rfl, ⟨_, A7.lst 1 rfl⟩, fun D hD => ?_⟩
      refine lc_it (walk_list (xs := te.map fun x => V.ref x.1)) (fun j H' => At [] H H' [(pr, .lst ((ys ++ [rest]).map V.str)), (pp, .lst (te.map fun x : Addr × (Str × Option Str) => V.ref x.1)), (pw, .lst ([a, b].map V.str)), (pn, .lst [.str b, .non]), (D, .lst (((te.take j).map fun x : Addr × (Str × Option Str) => x.2.1).map V.str))] (te.map tP)) (A7.snoc hD _) (fun j H' _ A => A.lst 1 rfl) ?_ ?_
      · rintro j x H8 H8' hj A8 ⟨rfl, hx⟩
        have hj' : j < te.length := by rw [List.length_map] at hj; exact hj
        have ex : x = .ref te[j].1 := by
          rw [List.getElem?_map, List.getElem?_eq_getElem hj'] at hx
          exact (Option.some.inj hx).symm
        subst ex
        have htj : te.take (j + 1) = te.take j ++ [te[j]] := by rw [List.take_add_one, List.getElem?_eq_getElem hj']; rfl
        have tu := A8.tm _ (List.mem_map_of_mem (f := tP) (List.getElem_mem hj'))
        refine ⟨rfl, ?_⟩
        walk_at "rd"
        refine rd_ixT (.inl (.inl tu)) (atI_nat (j := 0) rfl) ?_
        refine ⟨_, A8.get 4 rfl, by rw [List.length_map, List.length_map, List.length_take]; exact szn' (by omega), ?_⟩
        have e1 : ((te.take (j + 1)).map fun x : Addr × (Str × Option Str) => x.2.1).map V.str = ((te.take j).map fun x : Addr × (Str × Option Str) => x.2.1).map V.str ++ [.str te[j].2.1] := by rw [htj, List.map_append, List.map_append]; rfl
        rw [e1]
        exact A8.set 4 rfl _
      intro H8 A8
      rw [List.length_map, List.take_length] at A8
      have eos : te.map (fun x : Addr × (Str × Option Str) => x.2.1) = (te.map (·.2)).map (·.1) := by rw [List.map_map]; rfl
      rw [eos] at A8
      refine ⟨D, _, rfl, .inl (A8.lst 4 rfl), rfl, flat_strs _, rd_bl ?_⟩
      show if inV (.str a) _ = true then _ else _
      rw [inV_strs]
      have ein : (some a ∈ none :: (te.map (·.2)).map fun e => some e.1) ↔ a ∈ (te.map (·.2)).map (·.1) := by
        rw [List.mem_cons, List.mem_map, List.mem_map]
        exact ⟨fun h => h.elim (fun h => by cases h) fun ⟨e, h1, h2⟩ => ⟨e, h1, Option.some.inj h2⟩, fun ⟨e, h1, h2⟩ => .inr ⟨e, h1, by rw [h2]⟩⟩
      by_cases hin : a ∈ (te.map (·.2)).map (·.1)
      · rw [decide_eq_true hin]
        walk_at "rd"
        exact ⟨szl, fun p hp => bad (by unfold okRow; rw [hpo]; exact if_pos (.inl (ein.mpr hin))) A8 p hp⟩
      rw [decide_eq_false hin]
      walk_at "rd"
      refine ⟨rfl, rd_bl ?_⟩
      have A9 := A8.sel (L' := [(pr, .lst ((ys ++ [rest]).map V.str)), (pp, .lst (te.map fun x => V.ref x.1)), (pw, .lst ([a, b].map V.str))]) (by simp) (by walk_at "sub")
      clear A8 A7
      cases o with
      | none =>
        refine rd_iteN (fun h => absurd rfl h) (fun _ => ?_)
        have hok : okRow none (te.map (·.2)) ys[i] = some (a, none) := by
          unfold okRow; rw [hpo]
          exact if_neg (fun h => h.elim (fun h => hin (ein.mp h)) (fun h => h.1 rfl))
        rw [hok] at hstep
        walk_at "rd"
        refine ⟨.inl ⟨rfl, _, A9.lst 1 rfl⟩, ?_⟩
        walk_at "rd"
        refine rd_ixL (A9.lst 2 rfl) (v := .str a) (atI_nat (j := 0) rfl) ?_
        walk_at "rd"
        refine ⟨szl, fun tp htp => ?_⟩
        have A10 := A9.snocT htp (.tup [.str a, ov none])
        revert A10
        generalize upd H8 tp (.tup [.str a, ov none]) = H9
        intro A10
        refine ⟨pp, _, _, rfl, rfl, A10.get 1 rfl, by rw [List.length_map, htl2]; exact szn' (by omega), ?_⟩
        have A11 := A10.set 1 rfl (.lst ((te.map fun x : Addr × (Str × Option Str) => V.ref x.1) ++ [.ref tp]))
        refine ⟨te ++ [(tp, (a, none))], _, _, _, _, rfl, by rw [List.map_append]; exact hstep, ?_⟩
        have e1 : (te ++ [(tp, (a, none))]).map (fun x : Addr × (Str × Option Str) => V.ref x.1) = te.map (fun x : Addr × (Str × Option Str) => V.ref x.1) ++ [.ref tp] := by rw [List.map_append]; rfl
        have e2 : (te ++ [(tp, (a, none))]).map tP = te.map tP ++ [(tp, .tup [.str a, ov none])] := by rw [List.map_append]; rfl
        rw [e1, e2]
        exact A11.sel (by simp) (by walk_at "sub")
      | some z =>
        refine rd_iteN (fun _ => ?_) (fun h => by cases h)
        walk_at "rd"
        refine ⟨pp, rfl, ⟨_, A9.lst 1 rfl⟩, fun D2 hD2 => ?_⟩
        refine lc_it (walk_list (xs := te.map fun x => V.ref x.1)) (fun j H' => At [] H H' [(pr, .lst ((ys ++ [rest]).map V.str)), (pp, .lst (te.map fun x : Addr × (Str × Option Str) => V.ref x.1)), (pw, .lst ([a, b].map V.str)), (D2, .lst (((te.take j).map fun x : Addr × (Str × Option Str) => x.2.2).map ov))] (te.map tP)) (A9.snoc hD2 _) (fun j H' _ A => A.lst 1 rfl) ?_ ?_
        · rintro j x H10 H10' hj A10 ⟨rfl, hx⟩
          have hj' : j < te.length := by rw [List.length_map] at hj; exact hj
          have ex : x = .ref te[j].1 := by
            rw [List.getElem?_map, List.getElem?_eq_getElem hj'] at hx
            exact (Option.some.inj hx).symm
          subst ex
          have htj : te.take (j + 1) = te.take j ++ [te[j]] := by rw [List.take_add_one, List.getElem?_eq_getElem hj']; rfl
          have tu := A10.tm _ (List.mem_map_of_mem (f := tP) (List.getElem_mem hj'))
          refine ⟨rfl, ?_⟩
          walk_at "rd"
          refine rd_ixT (.inl (.inl tu)) (atI_nat (j := 1) rfl) ?_
          refine ⟨_, A10.get 3 rfl, by rw [List.length_map, List.length_map, List.length_take]; exact szn' (by omega), ?_⟩
          have e1 : ((te.take (j + 1)).map fun x : Addr × (Str × Option Str) => x.2.2).map ov = ((te.take j).map fun x : Addr × (Str × Option Str) => x.2.2).map ov ++ [ov te[j].2.2] := by rw [htj, List.map_append, List.map_append]; rfl
          rw [e1]
          exact A10.set 3 rfl _
        intro H10 A10
        rw [List.length_map, List.take_length] at A10
        have eos2 : te.map (fun x : Addr × (Str × Option Str) => x.2.2) = (te.map (·.2)).map (·.2) := by rw [List.map_map]; rfl
        rw [eos2] at A10
        refine ⟨D2, _, rfl, .inl (A10.lst 3 rfl), rfl, flat_opts _, rd_bl ?_⟩
        show if inV (.str z) _ = true then _ else _
        rw [inV_opts]
        have ein2 : (some z ∈ none :: (te.map (·.2)).map (·.2)) ↔ some z ∈ (te.map (·.2)).map (·.2) := by
          rw [List.mem_cons]
          exact ⟨fun h => h.elim (fun h => by cases h) id, .inr⟩
        by_cases hin2 : some z ∈ (te.map (·.2)).map (·.2)
        · rw [decide_eq_true hin2]
          walk_at "rd"
          exact ⟨szl, fun p hp => bad (by unfold okRow; rw [hpo]; exact if_pos (.inr ⟨by simp, ein2.mpr hin2⟩)) A10 p hp⟩
        rw [decide_eq_false hin2]
        have hok : okRow none (te.map (·.2)) ys[i] = some (a, some z) := by
          unfold okRow; rw [hpo]
          exact if_neg (fun h => h.elim (fun h => hin (ein.mp h)) (fun h => hin2 (ein2.mp h.2)))
        rw [hok] at hstep
        have A9 := A10.sel (L' := [(pr, .lst ((ys ++ [rest]).map V.str)), (pp, .lst (te.map fun x => V.ref x.1)), (pw, .lst ([a, b].map V.str))]) (by simp) (by walk_at "sub")
        walk_at "rd"
        refine ⟨.inl ⟨rfl, _, A9.lst 1 rfl⟩, ?_⟩
        walk_at "rd"
        refine rd_ixL (A9.lst 2 rfl) (v := .str a) (atI_nat (j := 0) rfl) ?_
        walk_at "rd"
        refine ⟨szl, fun tp htp => ?_⟩
        have A10 := A9.snocT htp (.tup [.str a, ov (some z)])
        revert A10
        show At [] H (upd H10 tp (.tup [.str a, ov (some z)])) _ _ → _
        generalize upd H10 tp (.tup [.str a, ov (some z)]) = H11
        intro A10
        refine ⟨pp, _, _, rfl, rfl, A10.get 1 rfl, by rw [List.length_map, htl2]; exact szn' (by omega), ?_⟩
        have A11 := A10.set 1 rfl (.lst ((te.map fun x : Addr × (Str × Option Str) => V.ref x.1) ++ [.ref tp]))
        refine ⟨te ++ [(tp, (a, some z))], _, _, _, _, rfl, by rw [List.map_append]; exact hstep, ?_⟩
        have e1 : (te ++ [(tp, (a, some z))]).map (fun x : Addr × (Str × Option Str) => V.ref x.1) = te.map (fun x : Addr × (Str × Option Str) => V.ref x.1) ++ [.ref tp] := by rw [List.map_append]; rfl
        have e2 : (te ++ [(tp, (a, some z))]).map tP = te.map tP ++ [(tp, .tup [.str a, ov (some z)])] := by rw [List.map_append]; rfl
        rw [e1, e2]
        exact A11.sel (by simp) (by walk_at "sub")
  · rintro σ H3 ⟨te, y3, y4, y5, y6, rfl, hsc, A3⟩
    rw [List.take_length] at hsc
    obtain ⟨g, gl⟩ := scan_ok RdOk.nil hsc
    have gl : (te.map (·.2)).length = ys.length := by rw [gl]; show 0 + _ = _; omega
    have hend := readF_end (rest := rest) hsc
    walk_at "rd"
    refine rd_ixL (A3.lst 0 rfl) (v := .str rest) (by rw [List.map_append]; exact atI_last _ _) ?_
    walk_at "rd"
    refine rd_iteN (fun hne => ?_) (fun he => ?_)
    · walk_at "rd"
      refine ⟨_, _, rfl, .inl (A3.lst 0 rfl), ?_⟩
      walk_at "rd"
      refine ⟨szl, fun p hp => ?_⟩
      rw [if_neg (fun h => hne (congrArg V.str h))] at hend
      refine q _ _ (.tuple [.str "row", .int (ys.length : Nat)]) ⟨fun n hn => by rw [hend] at hn; cases hn; rfl, fun prs hp => by rw [hend] at hp; cases hp⟩ (A3.snoc hp _).keep fun G' k => .tup (.inl (.inl (k _ _ upd_same (by simp)))) (.cons (.str _) (.cons ?_ .nil))
      have : (((ys ++ [rest]).map V.str).length : Int) - 1 = (ys.length : Nat) := by rw [List.length_map, List.length_append, List.length_singleton]; omega
      rw [this]
      exact .int _
    · have he : rest = "" := V.str.inj he
      rw [if_pos he] at hend
      walk_at "rd"
      refine ⟨pp, te, rfl, A3.get 1 rfl, fun x hx => A3.tm x hx, ⟨g.old, g.new, g.oldsNd, g.newsNd, by omega⟩, fun H4 p te' hpm hso hp hp' hN k => ?_⟩
      walk_at "rd"
      refine ⟨szl, fun pt hpt => ?_⟩
      have k0 : Kp [] H (upd H4 pt (.tup [.str "told", .ref p])) := (A3.c0 k).snoc hpt _ |>.keep
      refine q _ _ (.tuple [.str "told", .list ((te'.map (·.2)).map dP)]) ⟨fun n hn => (by rw [hend] at hn; cases hn), fun prs hp => ⟨_, (by rw [hend] at hp; cases hp; exact hpm), hso, rfl⟩⟩ k0 fun G' k' => .tup (.inl (.inl (k' _ _ upd_same (by simp)))) (.cons (.str _) (.cons ?_ .nil))
      have kk : Kp [] H4 G' := fun b ob hb _ => k' _ _ (by rw [upd_ne (ne_of_none hb hpt)]; exact hb) (by simp)
      exact .lst (.inl (.inl (kk _ _ hp' (by simp)))) (dpa_prs fun x hx => kk _ _ (hN x hx).2 (by simp))
end
end Nn

namespace Nn
open PySem PySem.Spec PyProof.Rows L2
local macro_rules | `(tactic| walk_at "rd1") => `(tactic| first
  | with_reducible refine' rd_c ?_
  | ((with_reducible refine' rd_var ?h ?_); (case h => rfl))
  | with_reducible refine' rd_op ?_
  | with_reducible refine' rd_I0 ?_
  | with_reducible refine' rd_seq ?_
  | ((with_reducible refine' rd_mod ?h ?_); (case h => decide))
  | ((with_reducible refine' rd_fdiv ?h ?_); (case h => exact ⟨by decide, by decide⟩))
  | ((with_reducible refine' rd_pow ?h ?_); (case h => exact ⟨by decide, by decide, by decide⟩))
  | ((with_reducible refine' rd_mul ?h ?_); (case h => first | exact Or.inl (by decide) | exact Or.inr (by decide)))
  | with_reducible refine' rd_set ?_
  | with_reducible refine' rd_asg ?_
  | with_reducible refine' rd_cons ?_
  | with_reducible refine' rd_nil ?_
  | with_reducible refine' rd_call ?_
  | with_reducible refine' rd_cb ?_
  | with_reducible refine' rd_if ?_
  | with_reducible refine' rd_test ?_
  | with_reducible refine' rd_B ?_
  | with_reducible refine' rd_bl ?_
  | ((with_reducible refine' rd_eq ?h ?_); (case h => rfl))
  | ((with_reducible refine' rd_ne ?h ?_); (case h => rfl))
  | with_reducible refine' rd_not ?_
  | with_reducible refine' rd_and ?_
  | with_reducible refine' rd_or ?_
  | with_reducible refine' rd_notV ?_
  | with_reducible refine' rd_chain ?_
  | with_reducible refine' rd_ret ?_
  | with_reducible refine' rd_drop ?_
  | with_reducible refine' rd_next' ?_
  | with_reducible refine' rd_lst ?_
  | with_reducible refine' rd_tup ?_
  | with_reducible refine' rd_lc ?_
  | with_reducible refine' rd_rng1 ?_
  | with_reducible refine' rd_istr ?_
  | with_reducible refine' rd_ilst ?_
  | with_reducible refine' rd_ienum ?_
  | with_reducible refine' rd_bm0 ?_
  | with_reducible refine' rd_bm ?_
  | with_reducible refine' rd_m1 ?_
  | with_reducible refine' rd_sl ?_
  | with_reducible refine' rd_po0 ?_
  | with_reducible refine' rd_po1 ?_
  | with_reducible refine' rd_in ?_
  | with_reducible refine' rd_sub ?_
  | with_reducible refine' rd_ifE ?_
  | with_reducible refine' rd_un ?_
  | with_reducible refine' rd_U ?_
  | with_reducible refine' rd_brk ?_
  | with_reducible refine' rd_cont ?_
  | with_reducible refine' rd_yes ?_
  | with_reducible refine' rd_T ?_
  | with_reducible refine' rd_F ?_
  | with_reducible refine' rd_nT ?_
  | with_reducible refine' rd_nF ?_
  | with_reducible refine' rd_dni ?_
  | with_reducible refine' rd_di ?_
  | with_reducible refine' rd_dget ?_
  | with_reducible refine' rd_dget1 ?_
  | with_reducible refine' rd_dget2 ?_
  | with_reducible refine' rd_dget2N ?_
  | with_reducible refine' rd_dpop1 ?_
  | with_reducible refine' rd_ddel ?_
  | with_reducible refine' rd_mkN ?_
  | with_reducible refine' rd_mkV ?_
  | with_reducible refine' rd_dput ?_
  | with_reducible refine' rd_dnew ?_
  | with_reducible refine' rd_ikeys ?_
  | with_reducible refine' rd_gn ?_
  | with_reducible refine' rd_for ?_
  | with_reducible refine' rd_make ?_
  | with_reducible refine' rd_meth ?_
  | with_reducible refine' rd_fld ?_
  | with_reducible refine' rd_sfld ?_
  | with_reducible refine' rd_dc ?_
  | with_reducible refine' rd_items ?_
  | with_reducible refine' rd_sadd ?_
  | with_reducible refine' rd_ivals ?_
  | with_reducible refine' rd_callS ?_
  | with_reducible refine' rd_makeS ?_
  | with_reducible refine' rd_methS ?_
  | with_reducible refine' rd_fldH ?_
  | with_reducible refine' rd_mkO ?_)
local macro_rules | `(tactic| walk_at "sub") => `(tactic| repeat' (first | exact List.nil_sublist _ | exact List.Sublist.refl _ | apply List.Sublist.cons₂ | apply List.Sublist.cons))
local macro_rules | `(tactic| walk_at "rd") => `(tactic| repeat walk_at "rd1")

section
variable {P : Program} {w : World} {K : PySem.W.Frag} {mg : Str → Option Value} {base : Heap}
/-! ### what read answers, told -/
structure CTold16 (P : Program) (w : World) (K : PySem.W.Frag) (mg : Str → Option Value) (base : Heap) (Cp : Addr) (Cs : ErrCs) : Prop where
  read : ClX P w K mg base 6 "read" (spRead Cp Cs)
  _law_word_of : Cl P w K mg base 1 "_law_word_of" (spWordOf K Cs)
structure MTold16 (P : Program) (w : World) (K : PySem.W.Frag) (mg : Str → Option Value) (base : Heap) (Cp : Addr) : Prop where
  Plan_pairs : Mt P w K mg base 1 Cp "pairs" (spPairsM Cp)
theorem ok__law_told {f : Addr} {fd : FuncData} (F : Fun K "_law_told" "_law_told" s_law_told f fd) (B : Blt mg) {Cp CN : Addr} {Cs : ErrCs} (C : CTold16 P w K mg base Cp Cs) (M : MTold16 P w K mg base Cp) (Y : ErrN K mg Cs CN) : FnOk P w K mg base CX0 7 f fd P_law_told (spDue16 K) := by
  refine F.ok sc_law_told (fun vs H Q E h => by obtain ⟨t, rest, ys, n, r, rfl, _⟩ := h; rfl) (fun cdv A outer s0 H vs Q E hr h => ?_)
  obtain ⟨t, rest, ys, n, r, rfl, hb, R, hn, hr60, q⟩ := h
  have hyl : ys.length < 60 := by have := R.cnt; omega
  have g_NewError := Y.g
  refine ⟨_, pss_cons (ps_set (i := 1) sc_law_told.nd rfl (Or.inl rfl) pe_non)
  (pss_cons (ps_set (i := 2) sc_law_told.nd rfl (Or.inl rfl) pe_non)
  (pss_cons (ps_try_keep (i := 3) rfl rfl sc_law_told.nd rfl rfl ⟨rfl, by decide, Or.inl g_NewError⟩ rfl (fun W pn xe tk po => pss_one (ps_set (i := 1) sc_law_told.nd rfl (Or.inl rfl) (pe_clX tk C.read hr (by omega) (by rfl) (pa_cons (pv 0) pa_nil)))) (fun a oe cls d pn hz hf => pss_one (ps_set (i := 2) sc_law_told.nd rfl (Or.inl rfl) (pv 3))))
  (pss_cons (ps_if (pt_cmpR op_notN (pv 2) pe_non (nomark _)) (pss_one (ps_ret (pe_cl C._law_word_of hr (by omega) (by rfl) (pa_cons (pv 2) pa_nil))))
   (pss_nil))
  (pss_one (ps_ret (pe_tup (pa_cons pe_str (pa_cons (pe_me0 M.Plan_pairs hr (by omega) (pv 1)) pa_nil)))))))), ?_⟩
  have A := At.nil H
  walk_at "rd"
  refine ⟨t, rest, ys, rfl, by have := hb.len; omega, R.sp, by omega, fun p hp => by have := (R.row p (List.mem_append_left _ hp)).1; omega, by have := (R.row rest (List.mem_append_right _ (by simp))).1; omega, fun m hf => thrown_keep (Y.of (.row m)) (show 3 < 4 by decide) fun e H1 k1 hE => ?_, fun prs hf H1 p dx d lv hlv hso hp hd hp' hd' hne k1 => ?_⟩
  · walk_at "rd"
    refine ⟨rfl, rd_bl ?_⟩
    refine rd_iteN (fun _ => ?_) (fun h => by cases h)
    walk_at "rd"
    refine ⟨e, .row m, rfl, hE, fun H2 p v k2 hp hp' hv => q H2 _ (.tuple [.str "row", .int m]) ⟨fun n hn => by rw [hf] at hn; cases hn; rfl, fun prs hp => by rw [hf] at hp; cases hp⟩ (fun b ob hb hn => k2 b ob (k1 b ob hb hn) hn) fun G kG => .tup (.inl (.inl (kG _ _ hp' (by simp)))) (.cons (.str _) (.cons (hv G kG) .nil))⟩
  · have A1 := A.c0 k1
    walk_at "rd"
    refine ⟨rfl, rd_bl ?_⟩
    refine rd_iteN (fun h => absurd rfl h) (fun _ => ?_)
    walk_at "rd"
    refine ⟨p, dx, _, rfl, hp', rfl, ?_⟩
    walk_at "rd"
    refine ⟨p, lv, rfl, ⟨dx, d, hp', hd'⟩, fun H2 a te hte ha ha' hN k2 => ?_⟩
    have A2 := A1.addB k2 ha ha' (te.map tP) hN (tP_ne ha' fun x hx => (hN x hx).2)
    walk_at "rd"
    refine ⟨szl, fun pt hpt => ?_⟩
    have A3 := A2.snoc hpt (.tup [.str "told", .ref a])
    refine q _ _ (.tuple [.str "told", .list (lv.map dP)]) ⟨fun n hn => (by rw [hf] at hn; cases hn), fun prs' hp => ⟨lv, (by rw [hf] at hp; cases hp; exact hlv), hso, rfl⟩⟩ A3.keep fun G k => .tup (.inl (.inl (k _ _ (A3.get 1 rfl) (by simp)))) (.cons (.str _) (.cons (.lst (.inl (.inl (k _ _ (A3.get 0 rfl) (by simp)))) ?_) .nil))
    rw [← hte]
    exact dpa_prs fun x hx => k _ _ (A3.tm x (List.mem_append_right _ hx)) (by simp)
end
end Nn

namespace Nn
open PySem PySem.Spec PyProof.Rows L2
local macro_rules | `(tactic| walk_at "rd1") => `(tactic| first
  | with_reducible refine' rd_c ?_
  | ((with_reducible refine' rd_var ?h ?_); (case h => rfl))
  | with_reducible refine' rd_op ?_
  | with_reducible refine' rd_I0 ?_
  | with_reducible refine' rd_seq ?_
  | ((with_reducible refine' rd_mod ?h ?_); (case h => decide))
  | ((with_reducible refine' rd_fdiv ?h ?_); (case h => exact ⟨by decide, by decide⟩))
  | ((with_reducible refine' rd_pow ?h ?_); (case h => exact ⟨by decide, by decide, by decide⟩))
  | ((with_reducible refine' rd_mul ?h ?_); (case h => first | exact Or.inl (by decide) | exact Or.inr (by decide)))
  | with_reducible refine' rd_set ?_
  | with_reducible refine' rd_asg ?_
  | with_reducible refine' rd_cons ?_
  | with_reducible refine' rd_nil ?_
  | with_reducible refine' rd_call ?_
  | with_reducible refine' rd_cb ?_
  | with_reducible refine' rd_if ?_
  | with_reducible refine' rd_test ?_
  | with_reducible refine' rd_B ?_
  | with_reducible refine' rd_bl ?_
  | ((with_reducible refine' rd_eq ?h ?_); (case h => rfl))
  | ((with_reducible refine' rd_ne ?h ?_); (case h => rfl))
  | with_reducible refine' rd_not ?_
  | with_reducible refine' rd_and ?_
  | with_reducible refine' rd_or ?_
  | with_reducible refine' rd_notV ?_
  | with_reducible refine' rd_chain ?_
  | with_reducible refine' rd_ret ?_
  | with_reducible refine' rd_drop ?_
  | with_reducible refine' rd_next' ?_
  | with_reducible refine' rd_lst ?_
  | with_reducible refine' rd_tup ?_
  | with_reducible refine' rd_lc ?_
  | with_reducible refine' rd_rng1 ?_
  | with_reducible refine' rd_istr ?_
  | with_reducible refine' rd_ilst ?_
  | with_reducible refine' rd_ienum ?_
  | with_reducible refine' rd_bm0 ?_
  | with_reducible refine' rd_bm ?_
  | with_reducible refine' rd_m1 ?_
  | with_reducible refine' rd_sl ?_
  | with_reducible refine' rd_po0 ?_
  | with_reducible refine' rd_po1 ?_
  | with_reducible refine' rd_in ?_
  | with_reducible refine' rd_sub ?_
  | with_reducible refine' rd_ifE ?_
  | with_reducible refine' rd_un ?_
  | with_reducible refine' rd_U ?_
  | with_reducible refine' rd_brk ?_
  | with_reducible refine' rd_cont ?_
  | with_reducible refine' rd_yes ?_
  | with_reducible refine' rd_T ?_
  | with_reducible refine' rd_F ?_
  | with_reducible refine' rd_nT ?_
  | with_reducible refine' rd_nF ?_
  | with_reducible refine' rd_dni ?_
  | with_reducible refine' rd_di ?_
  | with_reducible refine' rd_dget ?_
  | with_reducible refine' rd_dget1 ?_
  | with_reducible refine' rd_dget2 ?_
  | with_reducible refine' rd_dget2N ?_
  | with_reducible refine' rd_dpop1 ?_
  | with_reducible refine' rd_ddel ?_
  | with_reducible refine' rd_mkN ?_
  | with_reducible refine' rd_mkV ?_
  | with_reducible refine' rd_dput ?_
  | with_reducible refine' rd_dnew ?_
  | with_reducible refine' rd_ikeys ?_
  | with_reducible refine' rd_gn ?_
  | with_reducible refine' rd_for ?_
  | with_reducible refine' rd_make ?_
  | with_reducible refine' rd_meth ?_
  | with_reducible refine' rd_fld ?_
  | with_reducible refine' rd_sfld ?_
  | with_reducible refine' rd_dc ?_
  | with_reducible refine' rd_items ?_
  | with_reducible refine' rd_sadd ?_
  | with_reducible refine' rd_ivals ?_
  | with_reducible refine' rd_callS ?_
  | with_reducible refine' rd_makeS ?_
  | with_reducible refine' rd_methS ?_
  | with_reducible refine' rd_fldH ?_
  | with_reducible refine' rd_mkO ?_)
local macro_rules | `(tactic| walk_at "sub") => `(tactic| repeat' (first | exact List.nil_sublist _ | exact List.Sublist.refl _ | apply List.Sublist.cons₂ | apply List.Sublist.cons))
local macro_rules | `(tactic| walk_at "rd") => `(tactic| repeat walk_at "rd1")

section
variable {P : Program} {w : World} {K : PySem.W.Frag} {mg : Str → Option Value} {base : Heap}
/-! ### a text spoilt -/
structure Rw (m : Nat) (p : Str) : Prop where
  len : p.length ≤ m
  sg : ∀ c ∈ TL.tl p, c < 200
  no : 10 ∉ TL.tl p
theorem Rw.app {a b : Nat} {p q : Str} (h : Rw a p) (g : Rw b q) : Rw (a + b) (p ++ q) := by
  refine ⟨?_, fun c hc => ?_, fun hm => ?_⟩
  · rw [Str.length_append]; exact Nat.add_le_add h.len g.len
  · rw [TL.tl_append] at hc; exact (List.mem_append.mp hc).elim (h.sg c) (g.sg c)
  · rw [TL.tl_append] at hm; exact (List.mem_append.mp hm).elim h.no g.no
theorem Rw.mono {a b : Nat} {p : Str} (h : Rw a p) (hab : a ≤ b) : Rw b p := ⟨Nat.le_trans h.len hab, h.sg, h.no⟩
theorem Rw.name {z : Str} (h : nameOk z = true) : Rw 8 z := ⟨nameOk_len h |>.2, fun c hc => by have := signOk_lt (nameOk_sign h c hc); omega, name_no h (by decide)⟩
theorem rd_catX {a b : Str} {H : Hp} {Q : VK} (h : a.length + b.length ≤ 100000) (k : Q (.str (a ++ b)) H) : ∃ i j, V.str a = .str i ∧ V.str b = .str j ∧ i.length + j.length ≤ sizeLine ∧ Q (.str (i ++ j)) H := ⟨a, b, rfl, rfl, szn h, k⟩
theorem sum_bd {l : List Str} {m : Nat} (h : ∀ p ∈ l, p.length ≤ m) : (l.map (·.length)).sum ≤ l.length * m := by
  induction l with
  | nil => exact Nat.zero_le _
  | cons a l ih =>
    rw [List.map_cons, List.sum_cons, List.length_cons, Nat.succ_mul]
    have h1 := h a (by simp)
    have h2 := ih fun p hp => h p (List.mem_cons_of_mem _ hp)
    omega
def spSpoilt (K : PySem.W.Frag) : Sp := fun vs H Q _ => ∃ (S z : Addr) (s : Int) (t : Str) (ps : List Str) (n r : Nat), vs = [.ref S, .str t, .ref z] ∧ H S = some (.lst [.int s]) ∧ Sd s ∧ H z = some (.lst (ps.map V.str)) ∧ Pool ps ∧ Bd n r t ∧ n ≤ 400 ∧ r ≤ 20 ∧
  ∀ s' t' H', Sd s' → Bd (2 * n + 21) (r + 1) t' → Kp [S] H H' → H' S = some (.lst [.int s']) → Q (.str t') H'
theorem ok__law_spoilt {f : Addr} {fd : FuncData} (F : Fun K "_law_spoilt" "_law_spoilt" s_law_spoilt f fd) (B : Blt mg) (C : C1 P w K mg base) : FnOk P w K mg base CX0 2 f fd P_law_spoilt (spSpoilt K) := by
  refine F.ok sc_law_spoilt (fun vs H Q E h => by obtain ⟨S, z, s, t, ps, n, r, rfl, _⟩ := h; rfl) (fun cdv A outer s0 H vs Q E hr h => ?_)
  obtain ⟨S, z, s, t, ps, n, r, rfl, hS, hs, hZ, hp, hb, hn, hr20, q⟩ := h
  obtain ⟨ys, rest, R⟩ := hb.rows
  have htl := hb.len
  have hyl : ys.length ≤ 20 := by have := R.cnt; omega
  have hzS : z ≠ S := fun e => by
    rw [e, hS] at hZ
    have h := congrArg (fun o => match o with | some (HO.lst xs) => xs.length | _ => 0) hZ
    have h : 1 = (ps.map V.str).length := h
    rw [List.length_map, hp.len] at h
    cases h
  refine ⟨_, pss_cons (ps_set (i := 3) sc_law_spoilt.nd rfl (Or.inl rfl) (pe_slice sl_list (pe_split (pv 1) pe_str) po_none (po_some (pe_un un_neg pe_int))))
  (pss_cons (ps_set (i := 4) sc_law_spoilt.nd rfl (Or.inl rfl) (pe_cl C._law_next hr (by omega) (by rfl) (pa_cons (pv 0) (pa_cons (pe_op op_add (pe_callB call_len_seq (by rfl) B.len (by decide +kernel) (pa_cons (pv 3) pa_nil)) pe_int) pa_nil))))
  (pss_cons (ps_set (i := 5) sc_law_spoilt.nd rfl (Or.inl rfl) (pe_ix ix_list (pv 2) (pe_cl C._law_next hr (by omega) (by rfl) (pa_cons (pv 0) (pa_cons pe_int pa_nil))) (fun _ _ => rfl)))
  (pss_cons (ps_set (i := 6) sc_law_spoilt.nd rfl (Or.inl rfl) (pe_ix ix_list (pv 2) (pe_cl C._law_next hr (by omega) (by rfl) (pa_cons (pv 0) (pa_cons pe_int pa_nil))) (fun _ _ => rfl)))
  (pss_cons (ps_set (i := 7) sc_law_spoilt.nd rfl (Or.inl rfl) (pe_lst (pa_cons pe_str (pa_cons (pv 5) (pa_cons (pe_op op_add_str (pe_op op_add_str (pv 5) pe_str) (pv 6)) (pa_cons (pe_op op_add_str (pv 5) pe_str) (pa_cons (pe_op op_add_str pe_str (pv 5)) (pa_cons (pe_op op_add_str (pe_op op_add_str (pv 5) pe_str) (pv 6)) (pa_cons (pe_op op_add_str (pe_op op_add_str (pe_op op_add_str pe_str (pv 5)) pe_str) (pv 6)) pa_nil)))))))))
  (pss_cons (ps_set (i := 7) sc_law_spoilt.nd rfl (Or.inl rfl) (pe_op op_cat (pv 7) (pe_lst (pa_cons (pe_op op_add_str (pe_op op_add_str (pe_op op_add_str (pv 5) pe_str) (pv 6)) pe_str) (pa_cons (pe_op op_add_str (pe_op op_add_str (pe_op op_add_str (pv 5) pe_str) (pv 6)) pe_str) (pa_cons pe_str (pa_cons (pe_op op_add_str (pv 5) pe_str) (pa_cons (pe_op op_add_str (pe_op op_add_str (pv 5) pe_str) (pv 6)) (pa_cons pe_str pa_nil)))))))))
  (pss_cons (ps_expr (pe_bm PySem.F.plainAttrs_list PySem.F.slot_list_append PySem.F.type_list_append mt_append (pv 7) (pa_cons pe_str pa_nil)))
  (pss_cons (ps_set (i := 7) sc_law_spoilt.nd rfl (Or.inl rfl) (pe_op op_cat (pe_op op_cat (pv 7) (pe_lst (pa_cons (pe_op op_add_str (pv 5) pe_str) (pa_cons (pe_op op_add_str (pv 5) pe_str) (pa_cons pe_str (pa_cons pe_str pa_nil)))))) (pv 3)))
  (pss_cons (ps_set (i := 8) sc_law_spoilt.nd rfl (Or.inl rfl) (pe_ix ix_list (pv 7) (pe_cl C._law_next hr (by omega) (by rfl) (pa_cons (pv 0) (pa_cons (pe_callB call_len_seq (by rfl) B.len (by decide +kernel) (pa_cons (pv 7) pa_nil)) pa_nil))) (fun _ _ => rfl)))
  (pss_cons (ps_set (i := 9) sc_law_spoilt.nd rfl (Or.inl rfl) (pe_cl C._law_next hr (by omega) (by rfl) (pa_cons (pv 0) (pa_cons (pe_op op_add (pe_callB call_len_str (by rfl) B.len (by decide +kernel) (pa_cons (pv 1) pa_nil)) pe_int) pa_nil))))
  (pss_cons (ps_set (i := 10) sc_law_spoilt.nd rfl (Or.inl rfl) (pe_ix ix_str pe_str (pe_cl C._law_next hr (by omega) (by rfl) (pa_cons (pv 0) (pa_cons pe_int pa_nil))) (fun _ _ => rfl)))
  (pss_cons (ps_set (i := 11) sc_law_spoilt.nd rfl (Or.inl rfl) (pe_cl C._law_next hr (by omega) (by rfl) (pa_cons (pv 0) (pa_cons pe_int pa_nil))))
  (pss_cons (ps_if (pt_cmpR op_eq (pv 11) pe_int (nomark _)) (pss_one (ps_ret (pe_op op_add_str (pe_slice C8.sl_txt (pv 1) po_none (po_some (pv 9))) (pe_slice C8.sl_txt (pv 1) (po_some (pe_op op_add (pv 9) pe_int)) po_none))))
   (pss_nil))
  (pss_cons (ps_if (pt_cmpR op_eq (pv 11) pe_int (nomark _)) (pss_one (ps_ret (pe_op op_add_str (pe_op op_add_str (pe_slice C8.sl_txt (pv 1) po_none (po_some (pv 9))) (pv 10)) (pe_slice C8.sl_txt (pv 1) (po_some (pv 9)) po_none))))
   (pss_nil))
  (pss_cons (ps_if (pt_cmpR op_eq (pv 11) pe_int (nomark _)) (pss_one (ps_ret (pe_op op_add_str (pe_op op_add_str (pe_slice C8.sl_txt (pv 1) po_none (po_some (pv 9))) (pv 10)) (pe_slice C8.sl_txt (pv 1) (po_some (pe_op op_add (pv 9) pe_int)) po_none))))
   (pss_nil))
  (pss_cons (ps_if (pt_cmpR op_eq (pv 11) pe_int (nomark _)) (pss_one (ps_ret (pe_slice C8.sl_txt (pv 1) po_none (po_some (pe_op op_sub (pe_callB call_len_str (by rfl) B.len (by decide +kernel) (pa_cons (pv 1) pa_nil)) pe_int)))))
   (pss_nil))
  (pss_cons (ps_set (i := 3) sc_law_spoilt.nd rfl (Or.inl rfl) (pe_op op_cat (pe_op op_cat (pe_slice sl_list (pv 3) po_none (po_some (pv 4))) (pe_lst (pa_cons (pv 8) pa_nil))) (pe_slice sl_list (pv 3) (po_some (pe_op op_add (pv 4) (pe_callTy call_int1 (by rfl) B.int (by decide +kernel) (pa_cons (pe_cmpR op_eq (pv 11) pe_int (nomark _)) pa_nil)))) po_none)))
  (pss_one (ps_ret (pe_op op_add_str (pe_join pe_str (pv 3)) pe_str))))))))))))))))))), ?_⟩
  have A := At.one hS
  walk_at "rd"
  refine ⟨⟨_, rfl⟩, ?_⟩
  walk_at "rd"
  refine ⟨_, _, rfl, rfl, by rfl, szn (by omega), fun pr hpr => ?_⟩
  rw [R.sp]
  refine A.u2 hpr fun H1 A1 => ?_
  walk_at "rd"
  refine rd_slL A1 (A1.lst 1 rfl) fun p1 H2 A2 => ?_
  rw [List.map_append, List.map_singleton, cut_last] at A2
  walk_at "rd"
  refine ⟨_, _, rfl, .inl (A2.lst 2 rfl), ?_⟩
  rw [List.length_map]
  walk_at "rd"
  refine rd_next A2 0 rfl hs (by omega) fun s1 r1 H3 hs1 r10 r11 A3 => ?_
  walk_at "rd"
  refine rd_next A3 0 rfl hs1 (by decide) fun s2 r2 H4 hs2 r20 r21 A4 => ?_
  obtain ⟨x1, hx1, e1⟩ := atI_ex (xs := ps.map V.str) r20 (by rw [List.length_map, hp.len]; omega)
  refine rd_ixL (A4.sq (.inl (.inl hZ)) (by rw [List.mem_singleton]; exact hzS)) e1 ?_
  obtain ⟨o, ho, rfl⟩ := List.mem_map.mp hx1
  walk_at "rd"
  refine rd_next A4 0 rfl hs2 (by decide) fun s3 r3 H5 hs3 r30 r31 A5 => ?_
  obtain ⟨x2, hx2, e2⟩ := atI_ex (xs := ps.map V.str) r30 (by rw [List.length_map, hp.len]; omega)
  refine rd_ixL (A5.sq (.inl (.inl hZ)) (by rw [List.mem_singleton]; exact hzS)) e2 ?_
  obtain ⟨o', ho', rfl⟩ := List.mem_map.mp hx2
  walk_at "rd"
  have lo := (nameOk_len (hp.ok _ ho)).2
  have lo' := (nameOk_len (hp.ok _ ho')).2
  have c1 : (" " : Str).length = 1 := by decide +kernel
  have c2 : (" -" : Str).length = 2 := by decide +kernel
  have c3 : ("- " : Str).length = 2 := by decide +kernel
  have c4 : ("  " : Str).length = 2 := by decide +kernel
  have c5 : (" B" : Str).length = 2 := by decide +kernel
  have c6 : ("\t" : Str).length = 1 := by decide +kernel
  have c7 : (" --" : Str).length = 3 := by decide +kernel
  have c8 : (" abcdefghi" : Str).length = 10 := by decide +kernel
  iterate 9
    refine ⟨_, _, rfl, rfl, szn (by (try simp only [Str.length_append]); omega), ?_⟩
    walk_at "rd"
  refine ⟨szl, fun p2 hp2 => A5.u2 hp2 fun H6 A6 => ?_⟩
  walk_at "rd"
  iterate 9
    refine ⟨_, _, rfl, rfl, szn (by (try simp only [Str.length_append]); omega), ?_⟩
    walk_at "rd"
  refine ⟨szl, fun p3 hp3 => A6.u2 hp3 fun H7 A7 => ?_⟩
  refine ⟨p2, p3, _, _, rfl, rfl, A7.get 3 rfl, A7.get 4 rfl, szl, fun p4 hp4 => A7.u2 hp4 fun H8 A8 => ?_⟩
  walk_at "rd"
  refine ⟨.inl ⟨rfl, _, A8.lst 5 rfl⟩, ?_⟩
  walk_at "rd"
  refine ⟨p4, _, _, rfl, rfl, A8.get 5 rfl, szn' (by show 13 < 100000; decide), A8.s2 5 rfl fun H9 A9 => ?_⟩
  walk_at "rd"
  iterate 2
    refine ⟨_, _, rfl, rfl, szn (by (try simp only [Str.length_append]); omega), ?_⟩
    walk_at "rd"
  refine ⟨szl, fun p5 hp5 => A9.u2 hp5 fun H10 A10 => ?_⟩
  refine ⟨p4, p5, _, _, rfl, rfl, A10.get 5 rfl, A10.get 6 rfl, szl, fun p6 hp6 => A10.u2 hp6 fun H11 A11 => ?_⟩
  walk_at "rd"
  refine ⟨p6, p1, _, _, rfl, rfl, A11.get 7 rfl, A11.get 2 rfl, szn (by rw [List.length_map]; show 18 + _ ≤ _; omega), fun p7 hp7 => A11.u2 hp7 fun H12 A12 => ?_⟩
  have ro : Rw 8 o := .name (hp.ok _ ho)
  have ro' : Rw 8 o' := .name (hp.ok _ ho')
  have w1 : Rw 1 " " := ⟨by decide +kernel, by decide +kernel, by decide +kernel⟩
  have hz : ∀ p ∈ [("" : Str), o, o ++ " " ++ o', o ++ " -", "- " ++ o, o ++ "  " ++ o', " " ++ o ++ " " ++ o', o ++ " " ++ o' ++ " ", o ++ " " ++ o' ++ " -", "A b", o ++ " B", o ++ "\t" ++ o', "# a", "- -", o ++ " --", o ++ " abcdefghi", "plan", "begin"], Rw 20 p := by
    have lit : ∀ {z : Str} {k : Nat}, z.length ≤ k → (∀ c ∈ TL.tl z, c < 200) → 10 ∉ TL.tl z → Rw k z := fun a b c => ⟨a, b, c⟩
    have w0 : Rw 0 "" := ⟨by decide +kernel, by decide +kernel, by decide +kernel⟩
    have w2 : Rw 2 " -" := ⟨by decide +kernel, by decide +kernel, by decide +kernel⟩
    have w3 : Rw 2 "- " := ⟨by decide +kernel, by decide +kernel, by decide +kernel⟩
    have w4 : Rw 2 "  " := ⟨by decide +kernel, by decide +kernel, by decide +kernel⟩
    have w5 : Rw 2 " B" := ⟨by decide +kernel, by decide +kernel, by decide +kernel⟩
    have w6 : Rw 1 "\t" := ⟨by decide +kernel, by decide +kernel, by decide +kernel⟩
    have w7 : Rw 3 " --" := ⟨by decide +kernel, by decide +kernel, by decide +kernel⟩
    have w8 : Rw 10 " abcdefghi" := ⟨by decide +kernel, by decide +kernel, by decide +kernel⟩
    have v1 : Rw 20 "A b" := ⟨by decide +kernel, by decide +kernel, by decide +kernel⟩
    have v2 : Rw 20 "# a" := ⟨by decide +kernel, by decide +kernel, by decide +kernel⟩
    have v3 : Rw 20 "- -" := ⟨by decide +kernel, by decide +kernel, by decide +kernel⟩
    have v4 : Rw 20 "plan" := ⟨by decide +kernel, by decide +kernel, by decide +kernel⟩
    have v5 : Rw 20 "begin" := ⟨by decide +kernel, by decide +kernel, by decide +kernel⟩
    simp only [List.forall_mem_cons]
    exact ⟨w0.mono (by decide), ro.mono (by decide), ((ro.app w1).app ro').mono (by decide), (ro.app w2).mono (by decide), (w3.app ro).mono (by decide), ((ro.app w4).app ro').mono (by decide), (((w1.app ro).app w1).app ro').mono (by decide), (((ro.app w1).app ro').app w1).mono (by decide),
      (((ro.app w1).app ro').app w2).mono (by decide), v1, (ro.app w5).mono (by decide), ((ro.app w6).app ro').mono (by decide), v2, v3, (ro.app w7).mono (by decide), (ro.app w8).mono (by decide), v4, v5, by simp⟩
  have A13 : At [S] H H12 [(S, .lst [.int s3]), (p1, .lst (ys.map V.str)), (p7, .lst (([("" : Str), o, o ++ " " ++ o', o ++ " -", "- " ++ o, o ++ "  " ++ o', " " ++ o ++ " " ++ o', o ++ " " ++ o' ++ " ", o ++ " " ++ o' ++ " -", "A b", o ++ " B", o ++ "\t" ++ o', "# a", "- -", o ++ " --", o ++ " abcdefghi", "plan", "begin"] ++ ys).map V.str))] [] := by
    rw [List.map_append]
    exact A12.sel (by simp) (by walk_at "sub")
  clear A12 A11 A10 A9 A8 A7 A6 A5 A4 A3 A2 A1
  have hzl : [("" : Str), o, o ++ " " ++ o', o ++ " -", "- " ++ o, o ++ "  " ++ o', " " ++ o ++ " " ++ o', o ++ " " ++ o' ++ " ", o ++ " " ++ o' ++ " -", "A b", o ++ " B", o ++ "\t" ++ o', "# a", "- -", o ++ " --", o ++ " abcdefghi", "plan", "begin"].length = 18 := rfl
  generalize [("" : Str), o, o ++ " " ++ o', o ++ " -", "- " ++ o, o ++ "  " ++ o', " " ++ o ++ " " ++ o', o ++ " " ++ o' ++ " ", o ++ " " ++ o' ++ " -", "A b", o ++ " B", o ++ "\t" ++ o', "# a", "- -", o ++ " --", o ++ " abcdefghi", "plan", "begin"] = zs at *
  walk_at "rd"
  refine ⟨_, _, rfl, .inl (A13.lst 2 rfl), ?_⟩
  rw [List.length_map]
  walk_at "rd"
  refine rd_next A13 0 rfl hs3 (by rw [List.length_append, hzl]; omega) fun s4 r4 H13 hs4 r40 r41 A14 => ?_
  obtain ⟨x4, hx4, e4⟩ := atI_ex (xs := (zs ++ ys).map V.str) r40 (by rw [List.length_map]; exact r41)
  refine rd_ixL (A14.lst 2 rfl) e4 ?_
  obtain ⟨row, hrow, rfl⟩ := List.mem_map.mp hx4
  have hrw : Rw (20 + n) row := by
    rcases List.mem_append.mp hrow with h | h
    · exact (hz _ h).mono (by omega)
    · obtain ⟨g1, g2, g3⟩ := R.row row (List.mem_append_left _ h)
      exact ⟨by omega, g2, g3⟩
  walk_at "rd"
  refine ⟨t, rfl, szn (by omega), ?_⟩
  walk_at "rd"
  refine rd_next A14 0 rfl hs4 (by omega) fun s5 r5 H14 hs5 r50 r51 A15 => ?_
  walk_at "rd"
  refine rd_next A15 0 rfl hs5 (by decide) fun s6 r6 H15 hs6 r60 r61 A16 => ?_
  obtain ⟨c, hc, ec⟩ := atI_ex (xs := ("a -zA\n9" : Str).cps.toList) r60 r61
  refine rd_ixS szl ec ?_
  have hcs : ∀ x ∈ TL.tl (⟨#[c]⟩ : Str), x < 200 := fun x hx => by
    have hall : ∀ x ∈ ("a -zA\n9" : Str).cps.toList, x < 200 := by decide +kernel
    have : x ∈ [c] := hx
    rw [List.mem_singleton] at this
    rw [this]; exact hall c hc
  have hc1 : (⟨#[c]⟩ : Str).length = 1 := rfl
  walk_at "rd"
  refine rd_next A16 0 rfl hs6 (by decide) fun s7 r7 H16 hs7 r70 r71 A17 => ?_
  walk_at "rd"
  have hsl : ∀ lo hi, (Txt.slice t lo hi).length ≤ n := fun lo hi => by have := (slice_sub t lo hi).length_le; rw [← TL.len_tl, ← TL.len_tl] at this; omega
  have done : ∀ {G : Hp} {L T : List (Addr × HO)} {t' : Str}, At [S] H G L T → L[0]? = some (S, .lst [.int s7]) → Bd (2 * n + 21) (r + 1) t' → Q (.str t') G := fun {G L T t'} A h0 b => q s7 t' G hs7 b A.keep (A.get 0 h0)
  refine rd_ite (fun _ => ?_) (fun _ => ?_)
  · walk_at "rd"
    refine ⟨t, rfl, szn (by omega), ?_⟩
    walk_at "rd"
    refine ⟨t, rfl, szn (by omega), ?_⟩
    refine ⟨_, _, rfl, rfl, szn (by have := hsl none (some r5); have := hsl (some (r5 + 1)) none; omega), ?_⟩
    refine done A17 rfl ((hb.sub ?_).mono (by omega) (by omega))
    rw [TL.tl_append]
    exact slice_two t r50 (by omega)
  walk_at "rd"
  refine rd_ite (fun _ => ?_) (fun _ => ?_)
  · walk_at "rd"
    refine ⟨t, rfl, szn (by omega), ?_⟩
    walk_at "rd"
    refine ⟨_, _, rfl, rfl, szn (by have := hsl none (some r5); omega), ?_⟩
    walk_at "rd"
    refine ⟨t, rfl, szn (by omega), ?_⟩
    refine ⟨_, _, rfl, rfl, szn (by have := hsl none (some r5); have := hsl (some r5) none; rw [Str.length_append]; omega), ?_⟩
    exact done A17 rfl ((hb.ins (slice_two t r50 (by omega)) hc1 hcs).mono (by omega) (by omega))
  walk_at "rd"
  refine rd_ite (fun _ => ?_) (fun _ => ?_)
  · walk_at "rd"
    refine ⟨t, rfl, szn (by omega), ?_⟩
    walk_at "rd"
    refine ⟨_, _, rfl, rfl, szn (by have := hsl none (some r5); omega), ?_⟩
    walk_at "rd"
    refine ⟨t, rfl, szn (by omega), ?_⟩
    refine ⟨_, _, rfl, rfl, szn (by have := hsl none (some r5); have := hsl (some (r5 + 1)) none; rw [Str.length_append]; omega), ?_⟩
    exact done A17 rfl ((hb.ins (slice_two t r50 (by omega)) hc1 hcs).mono (by omega) (by omega))
  walk_at "rd"
  refine rd_ite (fun _ => ?_) (fun _ => ?_)
  · walk_at "rd"
    refine ⟨t, rfl, szn (by omega), ?_⟩
    walk_at "rd"
    refine ⟨t, rfl, szn (by omega), ?_⟩
    exact done A17 rfl ((hb.sub (slice_sub t _ _)).mono (by omega) (by omega))
  walk_at "rd"
  refine rd_slL A17 (A17.lst 1 rfl) fun p8 H17 A18 => ?_
  walk_at "rd"
  refine ⟨szl, fun p9 hp9 => A18.u2 hp9 fun H18 A19 => ?_⟩
  refine ⟨p8, p9, _, _, rfl, rfl, A19.get 3 rfl, A19.get 4 rfl, szn (by have := cutV_length (ys.map V.str) none (some r1); rw [List.length_map] at this; show _ + 1 ≤ _; omega), fun p10 hp10 => A19.u2 hp10 fun H19 A20 => ?_⟩
  walk_at "rd"
  refine .inr ⟨_, rfl, ?_⟩
  walk_at "rd"
  have hb01 : ∃ k : Int, 0 ≤ k ∧ (if decide (V.int r7 = V.int 4) = true then (1 : Int) else 0) = k := ⟨_, by split <;> decide, rfl⟩
  obtain ⟨k, hk0, hk⟩ := hb01
  rw [hk]
  refine rd_slL A20 (A20.lst 1 rfl) fun p11 H20 A21 => ?_
  obtain ⟨u, v, huv, e1, e2⟩ := cut_two (ys.map V.str) (i := r1) (j := r1 + k) r10 (by omega)
  rw [e1, e2, ← List.map_take, ← List.map_drop] at A21
  refine ⟨p10, p11, _, _, rfl, rfl, A21.get 5 rfl, A21.get 6 rfl, szn (by
    have h1 : (ys.take u).length ≤ ys.length := (by rw [List.length_take]; omega)
    have h2 : (ys.drop v).length ≤ ys.length := (by rw [List.length_drop]; omega)
    rw [List.length_append, List.length_map, List.length_map]
    show (_ + 1) + _ ≤ _
    omega), fun p12 hp12 => A21.u2 hp12 fun H21 A22 => ?_⟩
  have el : ((ys.take u).map V.str ++ [V.str row]) ++ (ys.drop v).map V.str = (ys.take u ++ [row] ++ ys.drop v).map V.str := by rw [List.map_append, List.map_append]; rfl
  rw [el] at A22
  have hbd := rows_bd (row := row) R huv hrw.len hrw.sg hrw.no
  walk_at "rd"
  refine ⟨⟨_, rfl⟩, ?_⟩
  walk_at "rd"
  refine ⟨_, p12, _, rfl, rfl, .inl (A22.lst 7 rfl), ?_, ?_⟩
  · have h1 : (ys.take u ++ [row] ++ ys.drop v).length ≤ 41 := by rw [List.length_append, List.length_append, List.length_take, List.length_drop, List.length_singleton]; omega
    have h2 := sum_bd (l := ys.take u ++ [row] ++ ys.drop v) (m := 420) fun p hp => by
      have gy : p ∈ ys → p.length ≤ 420 := fun h => by have := (R.row p (List.mem_append_left _ h)).1; omega
      rcases List.mem_append.mp hp with hp | hp
      · rcases List.mem_append.mp hp with hp | hp
        · exact gy (List.mem_of_mem_take hp)
        · rw [List.mem_singleton] at hp; rw [hp]; have := hrw.len; omega
      · exact gy (List.mem_of_mem_drop hp)
    have h3 : (ys.take u ++ [row] ++ ys.drop v).length * 420 ≤ 41 * 420 := Nat.mul_le_mul_right _ h1
    rw [show ("\n" : Str).length = 1 by decide +kernel]
    omega
  walk_at "rd"
  refine ⟨_, _, rfl, rfl, szn (by have := hbd.len; rw [Str.length_append] at this; omega), ?_⟩
  exact done A22 rfl (hbd.mono (by omega) (by omega))
end
end Nn

namespace Nn
open PySem PySem.Spec PyProof.Rows L2
local macro_rules | `(tactic| walk_at "rd1") => `(tactic| first
  | with_reducible refine' rd_c ?_
  | ((with_reducible refine' rd_var ?h ?_); (case h => rfl))
  | with_reducible refine' rd_op ?_
  | with_reducible refine' rd_I0 ?_
  | with_reducible refine' rd_seq ?_
  | ((with_reducible refine' rd_mod ?h ?_); (case h => decide))
  | ((with_reducible refine' rd_fdiv ?h ?_); (case h => exact ⟨by decide, by decide⟩))
  | ((with_reducible refine' rd_pow ?h ?_); (case h => exact ⟨by decide, by decide, by decide⟩))
  | ((with_reducible refine' rd_mul ?h ?_); (case h => first | exact Or.inl (by decide) | exact Or.inr (by decide)))
  | with_reducible refine' rd_set ?_
  | with_reducible refine' rd_asg ?_
  | with_reducible refine' rd_cons ?_
  | with_reducible refine' rd_nil ?_
  | with_reducible refine' rd_call ?_
  | with_reducible refine' rd_cb ?_
  | with_reducible refine' rd_if ?_
  | with_reducible refine' rd_test ?_
  | with_reducible refine' rd_B ?_
  | with_reducible refine' rd_bl ?_
  | ((with_reducible refine' rd_eq ?h ?_); (case h => rfl))
  | ((with_reducible refine' rd_ne ?h ?_); (case h => rfl))
  | with_reducible refine' rd_not ?_
  | with_reducible refine' rd_and ?_
  | with_reducible refine' rd_or ?_
  | with_reducible refine' rd_notV ?_
  | with_reducible refine' rd_chain ?_
  | with_reducible refine' rd_ret ?_
  | with_reducible refine' rd_drop ?_
  | with_reducible refine' rd_next' ?_
  | with_reducible refine' rd_lst ?_
  | with_reducible refine' rd_tup ?_
  | with_reducible refine' rd_lc ?_
  | with_reducible refine' rd_rng1 ?_
  | with_reducible refine' rd_istr ?_
  | with_reducible refine' rd_ilst ?_
  | with_reducible refine' rd_ienum ?_
  | with_reducible refine' rd_bm0 ?_
  | with_reducible refine' rd_bm ?_
  | with_reducible refine' rd_m1 ?_
  | with_reducible refine' rd_sl ?_
  | with_reducible refine' rd_po0 ?_
  | with_reducible refine' rd_po1 ?_
  | with_reducible refine' rd_in ?_
  | with_reducible refine' rd_sub ?_
  | with_reducible refine' rd_ifE ?_
  | with_reducible refine' rd_un ?_
  | with_reducible refine' rd_U ?_
  | with_reducible refine' rd_brk ?_
  | with_reducible refine' rd_cont ?_
  | with_reducible refine' rd_yes ?_
  | with_reducible refine' rd_T ?_
  | with_reducible refine' rd_F ?_
  | with_reducible refine' rd_nT ?_
  | with_reducible refine' rd_nF ?_
  | with_reducible refine' rd_dni ?_
  | with_reducible refine' rd_di ?_
  | with_reducible refine' rd_dget ?_
  | with_reducible refine' rd_dget1 ?_
  | with_reducible refine' rd_dget2 ?_
  | with_reducible refine' rd_dget2N ?_
  | with_reducible refine' rd_dpop1 ?_
  | with_reducible refine' rd_ddel ?_
  | with_reducible refine' rd_mkN ?_
  | with_reducible refine' rd_mkV ?_
  | with_reducible refine' rd_dput ?_
  | with_reducible refine' rd_dnew ?_
  | with_reducible refine' rd_ikeys ?_
  | with_reducible refine' rd_gn ?_
  | with_reducible refine' rd_for ?_
  | with_reducible refine' rd_make ?_
  | with_reducible refine' rd_meth ?_
  | with_reducible refine' rd_fld ?_
  | with_reducible refine' rd_sfld ?_
  | with_reducible refine' rd_dc ?_
  | with_reducible refine' rd_items ?_
  | with_reducible refine' rd_sadd ?_
  | with_reducible refine' rd_ivals ?_
  | with_reducible refine' rd_callS ?_
  | with_reducible refine' rd_makeS ?_
  | with_reducible refine' rd_methS ?_
  | with_reducible refine' rd_fldH ?_
  | with_reducible refine' rd_mkO ?_)
local macro_rules | `(tactic| walk_at "sub") => `(tactic| repeat' (first | exact List.nil_sublist _ | exact List.Sublist.refl _ | apply List.Sublist.cons₂ | apply List.Sublist.cons))
local macro_rules | `(tactic| walk_at "rd") => `(tactic| repeat walk_at "rd1")

section
variable {P : Program} {w : World} {K : PySem.W.Frag} {mg : Str → Option Value} {base : Heap}
/-! ### the law of refused texts -/
theorem text_bd {lv : List (Str × Option Str)} (g : Good lv) (hl : lv.length ≤ 10) : Bd 180 10 (textW lv) := by
  have h1 := text_len g.old g.new
  obtain ⟨ps, e1, e2, e3, e4⟩ := split_parts tl_nl (by decide +kernel) (textW lv)
  rw [text_split g.old g.new] at e1
  subst e1
  have hc := joinL_count 10 (fun e => e2 (List.map_eq_nil_iff.mp e)) (fun q hq => by
    obtain ⟨p, hp, rfl⟩ := List.mem_map.mp hq
    exact e4 p hp)
  rw [← e3, List.length_map, List.length_append, List.length_map, List.length_singleton] at hc
  exact ⟨by omega, by omega, text_sign g⟩
theorem text_rows {lv : List (Str × Option Str)} (g : Good lv) {n r : Nat} {ys : List Str} {rest : Str} (R : TRows n r (textW lv) ys rest) : ys = lv.map rowW ∧ rest = "" := by
  have h := R.sp
  rw [text_split g.old g.new] at h
  have h1 := (List.append_inj' h rfl).1
  have h2 := (List.append_inj' h rfl).2
  exact ⟨h1.symm, (List.cons.inj h2).1.symm⟩
theorem due_fact {ys : List Str} {rest : Str} {d d' : PyData} (hl : ys.length < 60) (h : Due16 ys rest d) (h' : Due16 ys rest d') : d = d' ∧ Sm 3 d := by
  cases hf : readF ys rest with
  | inl n =>
    rw [h.1 n hf, h'.1 n hf]
    refine ⟨rfl, by show 2 ≤ 1000; omega, fun e he => ?_⟩
    simp only [List.mem_cons, List.not_mem_nil, or_false] at he
    rcases he with rfl | rfl
    · exact (by decide +kernel : PyData.strOk "row" = true)
    · exact True.intro
  | inr prs =>
    obtain ⟨lv, p1, s1, rfl⟩ := h.2 prs hf
    obtain ⟨lv', p2, s2, rfl⟩ := h'.2 prs hf
    have hsc : scanF none [] ys = .inr prs := by
      unfold readF at hf
      cases hs : scanF none [] ys with
      | inl n => rw [hs] at hf; cases hf
      | inr prs' =>
        rw [hs] at hf
        have hf : (if rest = "" then Sum.inr prs' else Sum.inl ys.length) = Sum.inr prs := hf
        split at hf
        · exact hf
        · cases hf
    obtain ⟨g, gl⟩ := scan_ok RdOk.nil hsc
    have gg : Good prs := ⟨g.old, g.new, g.oldsNd, g.newsNd, by rw [gl]; show 0 + _ < _; omega⟩
    have e : lv = lv' := lv_eq gg.oldsNd p1 p2 s1 s2
    subst e
    refine ⟨rfl, by show 2 ≤ 1000; omega, fun e he => ?_⟩
    simp only [List.mem_cons, List.not_mem_nil, or_false] at he
    rcases he with rfl | rfl
    · exact (by decide +kernel : PyData.strOk "told" = true)
    · exact sm_dues (gg.perm p1) (List.Perm.refl _) 0
theorem read_rows {lv : List (Str × Option Str)} (g : Good lv) : readF (lv.map rowW) "" = .inr lv := read_text g
structure CLaw (P : Program) (w : World) (K : PySem.W.Frag) (mg : Str → Option Value) (base : Heap) : Prop where
  _law_state : Cl P w K mg base 1 "_law_state" spState
  _law_next : Cl P w K mg base 1 "_law_next" spNext
  _law_pool : Cl P w K mg base 2 "_law_pool" spPool
  _law_things : Cl P w K mg base 3 "_law_things" (spThings K)
  _law_pairs : Cl P w K mg base 3 "_law_pairs" (spPairs K)
  _law_by_olds : Cl P w K mg base 1 "_law_by_olds" spByOlds
  _law_spoilt : Cl P w K mg base 2 "_law_spoilt" (spSpoilt K)
  _law_told : Cl P w K mg base 7 "_law_told" (spDue16 K)
  _law_due : Cl P w K mg base 2 "_law_due" (spDue16 K)
def spLaw (K : PySem.W.Frag) : Sp := fun vs H Q _ => ∃ (a : Addr) (ns : List Int), vs = [.ref a] ∧ SqL K H a (ns.map V.int) ∧ ns.length ≤ 63 ∧ ∀ H', Q (.bl true) H'
theorem ok_law {f : Addr} {fd : FuncData} (F : Fun K "law" "law" slaw f fd) (B : Blt mg) (C : CLaw P w K mg base) : FnOk P w K mg base CX0 8 f fd Plaw (spLaw K) := by
  refine F.ok sclaw (fun vs H Q E h => by obtain ⟨a, ns, rfl, _⟩ := h; rfl) (fun cdv A outer s0 H vs Q E hr h => ?_)
  obtain ⟨a, ns, rfl, hS, hlen, q⟩ := h
  refine ⟨_, pss_cons (ps_for PassesOwn.never rfl (pi_enum (by rfl) B.enumerate (pa_cons (pv 0) pa_nil)) (pg_tup rfl (pgs_cons (pg_name (i := 1) sclaw.nd rfl (Or.inl rfl)) (pgs_cons (pg_name (i := 2) sclaw.nd rfl (Or.inl rfl)) pgs_nil)))
   (pss_cons (ps_set (i := 3) sclaw.nd rfl (Or.inl rfl) (pe_cl C._law_state hr (by omega) (by rfl) (pa_cons (pv 2) (pa_cons (pv 1) pa_nil))))
  (pss_cons (ps_set (i := 4) sclaw.nd rfl (Or.inl rfl) (pe_cl C._law_pool hr (by omega) (by rfl) (pa_cons (pv 3) pa_nil)))
  (pss_cons (ps_set (i := 5) sclaw.nd rfl (Or.inl rfl) (pe_cl C._law_by_olds hr (by omega) (by rfl) (pa_cons (pe_cl C._law_pairs hr (by omega) (by rfl) (pa_cons (pv 3) (pa_cons (pv 4) (pa_cons (pe_cl C._law_things hr (by omega) (by rfl) (pa_cons (pv 3) (pa_cons (pv 4) pa_nil))) pa_nil)))) pa_nil)))
  (pss_cons (ps_set (i := 6) sclaw.nd rfl (Or.inl rfl) (pe_join pe_str (pe_lc (own := [("_law_old", 8), ("_law_new", 9)]) rfl sclaw.nd (pi_list (pv 5)) (blkOk_by (N := Nlaw) (sc := defScope slaw) (by decide +kernel)) (fun _ _ _ _ _ => (pg_tup' (n := 2) (K := K) rfl rfl (pgs_cons (pg_name (i := 8) sclaw.nd rfl (Or.inl rfl)) (pgs_cons (pg_name (i := 9) sclaw.nd rfl (Or.inl rfl)) pgs_nil)))) (fun _ _ _ _ _ => pts_nil) (fun _ _ _ _ _ => (pe_op op_add_str (pe_op op_add_str (pe_op op_add_str (pv 8) pe_str) (pe_orT' (K := K) rfl (pv 9) (pe_one pe_str))) pe_str)))))
  (pss_cons (ps_set (i := 7) sclaw.nd rfl (Or.inl rfl) (pe_cl C._law_spoilt hr (by omega) (by rfl) (pa_cons (pv 3) (pa_cons (pv 6) (pa_cons (pv 4) pa_nil)))))
  (Evl.pss_cut (ps_if (pt_cmpR op_eq (pe_cl C._law_next hr (by omega) (by rfl) (pa_cons (pv 3) (pa_cons pe_int pa_nil))) pe_int (nomark _)) (pss_one (ps_set (i := 7) sclaw.nd rfl (Or.inl rfl) (pe_cl C._law_spoilt hr (by omega) (by rfl) (pa_cons (pv 3) (pa_cons (pv 7) (pa_cons (pv 4) pa_nil))))))
   (pss_nil))
  (pss_one (ps_if (PW.pt (pw_or (pt_cmpR (op_neD hr.units) (pe_cl C._law_told hr (by omega) (by rfl) (pa_cons (pv 7) pa_nil)) (pe_cl C._law_due hr (by omega) (by rfl) (pa_cons (pv 7) pa_nil)) (nomark _)) (pw_or1 (pt_cmpR (op_neD hr.units) (pe_cl C._law_told hr (by omega) (by rfl) (pa_cons (pv 6) pa_nil)) (pe_tup (pa_cons pe_str (pa_cons (pv 5) pa_nil))) (nomark _))))) (pss_one (ps_ret pe_bl))
   (pss_nil))))))))))
  (pss_one (ps_ret pe_bl)), ?_⟩
  have A := At.nil H
  walk_at "rd"
  refine ⟨a, _, rfl, hS, ?_⟩
  refine forI (walk_enum (xs := ns.map V.int)) (fun i σ H' => ∃ (y1 y2 y3 y4 y5 y6 y7 y8 y9 : Option V), σ = [some (.ref a), y1, y2, y3, y4, y5, y6, y7, y8, y9] ∧ At [] H H' [] [])
    ⟨_, _, _, _, _, _, _, _, _, rfl, A⟩ (fun _ _ _ _ ⟨_, _, _, _, _, _, _, _, _, _, A1⟩ => A1.sq hS (by simp)) ?_ ?_
  · rintro i x σ H1 H2 hi ⟨y1, y2, y3, y4, y5, y6, y7, y8, y9, rfl, A1⟩ ⟨T0, v1, x, rfl, hT0, rfl, e1, hi'⟩
    cases Option.some.inj e1
    have A2 := A1.skip (Sk.of (o := .tup [.int (i : Nat), x]) hT0)
    refine ⟨T0, [.int (i : Nat), x], rfl, .inl (.inl upd_same), rfl, _, _, rfl, _, _, rfl, rfl, ?_⟩
    revert A2
    generalize upd H1 T0 (.tup [.int (i : Nat), x]) = H2
    intro A2
    clear A1
    obtain ⟨cell, rfl⟩ : ∃ c, x = V.int c := by
      have hi' : (ns.map V.int)[i]? = some x := hi'
      rw [List.getElem?_map] at hi'
      obtain ⟨c, _, e⟩ := Option.map_eq_some_iff.mp hi'
      exact ⟨c, e.symm⟩
    have hi63 : i < 63 := by rw [List.length_map] at hi; omega
    walk_at "rd"
    refine rd_state A2 fun s S H3 hs A3 => ?_
    walk_at "rd"
    refine rd_pool A3 0 rfl hs fun s2 z ps H4 hs2 hp A4 => ?_
    walk_at "rd"
    refine ⟨S, z, s2, ps, rfl, A4.get 0 rfl, hs2, A4.lst 1 rfl, hp, fun s3 pt td H5 hs3 ht hpt hpt' k5 hS5 => ?_⟩
    have A5 := A4.add (A4.c1 0 rfl k5 hS5) rfl hpt hpt'
    walk_at "rd"
    refine ⟨S, z, pt, s3, ps, td, rfl, A5.get 0 rfl, hs3, A5.lst 1 rfl, A5.get 2 rfl, hp, ht, fun s4 pa te H6 hs4 hpr hpa hpa' hte k6 hS6 => ?_⟩
    have A6 := A5.addC (A5.c1 0 rfl k6 hS6) rfl hpa hpa' (te.map tP) hte (tP_ne hpa' fun x hx => (hte x hx).2)
    have hg := good_pairs hp ht hpr
    have htel : te.length ≤ 10 := by have := hpr.len; rw [List.length_map] at this; exact this
    clear A5 A4 A3 A2
    walk_at "rd"
    refine ⟨pa, te, rfl, A6.get 3 rfl, fun x hx => A6.tm x (List.mem_append_right _ hx), hg, fun H7 pb tb htb hsb hpb hpb' hN7 k7 => ?_⟩
    have A7 := A6.addB k7 hpb hpb' (tb.map tP) hN7 (tP_ne hpb' fun x hx => (hN7 x hx).2)
    have hgb : Good (tb.map (·.2)) := hg.perm htb
    have htbl : tb.length ≤ 10 := by have := htb.length_eq; rw [List.length_map, List.length_map] at this; omega
    have A8 := (A7.sel (L' := [(S, .lst [.int s4]), (z, .lst (ps.map V.str)), (pb, .lst (tb.map fun x => V.ref x.1))]) (by simp) (by walk_at "sub")).selT (tb.map tP) (fun x hx => List.mem_append_right _ hx)
    clear A7 A6
    generalize hlw : tb.map (·.2) = lw at *
    walk_at "rd"
    -- the text
    refine ⟨⟨_, rfl⟩, ?_⟩
    walk_at "rd"
    refine ⟨pb, rfl, ⟨_, A8.lst 2 rfl⟩, fun D hD => ?_⟩
    refine lc_it (walk_list (xs := tb.map fun x => V.ref x.1)) (fun i H' => At [] H H' [(S, .lst [.int s4]), (z, .lst (ps.map V.str)), (pb, .lst (tb.map fun x : Addr × (Str × Option Str) => V.ref x.1)), (D, .lst (((lw.take i).map lineW).map V.str))] (tb.map tP))
      (A8.snoc hD _) (fun i H' _ A => A.lst 2 rfl) ?_ ?_
    · rintro j x H9 H9' hj A9 ⟨rfl, hx⟩
      have hj' : j < tb.length := by rw [List.length_map] at hj; exact hj
      have ex : x = .ref tb[j].1 := by
        rw [List.getElem?_map, List.getElem?_eq_getElem hj'] at hx
        exact (Option.some.inj hx).symm
      subst ex
      have tm := A9.tm _ (List.mem_map_of_mem (f := tP) (List.getElem_mem hj'))
      have e2 : lw[j]? = some tb[j].2 := by rw [← hlw, List.getElem?_map, List.getElem?_eq_getElem hj']; rfl
      have hme := List.mem_of_getElem? e2
      have ct : lw.take (j + 1) = lw.take j ++ [tb[j].2] := by rw [List.take_add_one, e2]; rfl
      have hll : (((lw.take j).map lineW).map V.str).length < sizeLine := by rw [List.length_map, List.length_map, List.length_take]; exact szn' (by omega)
      have l1 := nameOk_len (hgb.old _ hme)
      have s1 : (" " : Str).length = 1 := by decide +kernel
      have s2 : ("\n" : Str).length = 1 := by decide +kernel
      have hrw := rowW_len (hgb.old _ hme) (hgb.new _ hme)
      refine ⟨tb[j].1, _, rfl, .inl (.inl tm), rfl, _, _, rfl, _, _, rfl, rfl, rfl, ?_⟩
      walk_at "rd"
      refine ⟨_, _, rfl, rfl, szn (by omega), ?_⟩
      have fin : ∀ {y : Str}, tb[j].2.1 ++ " " ++ y = rowW tb[j].2 → ∃ acc, H9' D = some (.lst acc) ∧ acc.length < sizeLine ∧ At [] H (upd H9' D (.lst (acc ++ [V.str (tb[j].2.1 ++ " " ++ y ++ "\n")]))) [(S, .lst [.int s4]), (z, .lst (ps.map V.str)), (pb, .lst (tb.map fun x : Addr × (Str × Option Str) => V.ref x.1)), (D, .lst (((lw.take (j + 1)).map lineW).map V.str))] (tb.map tP) := fun {y} hz => by
        refine ⟨_, A9.get 3 rfl, hll, ?_⟩
        rw [hz, ct, List.map_append, List.map_append]
        exact A9.set 3 rfl _
      cases hn : tb[j].2.2 with
      | none =>
        have hz : tb[j].2.1 ++ " " ++ "-" = rowW tb[j].2 := by unfold rowW; rw [hn]; rfl
        refine ⟨_, rfl, false, rfl, ?_⟩
        refine rd_F ?_
        walk_at "rd"
        have h1 : (tb[j].2.1 ++ " " ++ "-" : Str).length ≤ 17 := by rw [hz]; exact hrw
        rw [Str.length_append] at h1
        refine ⟨_, _, rfl, rfl, szn (by omega), ?_⟩
        walk_at "rd"
        refine ⟨_, _, rfl, rfl, szn (by rw [hz]; omega), ?_⟩
        exact fin hz
      | some n =>
        have hz : tb[j].2.1 ++ " " ++ n = rowW tb[j].2 := by unfold rowW; rw [hn]; rfl
        have l2 := nameOk_len (hgb.new _ hme n hn)
        refine ⟨_, rfl, true, ⟨szn (by omega), (bne_iff_ne.mpr (by omega)).symm⟩, ?_⟩
        refine rd_T ?_
        have h1 : (tb[j].2.1 ++ " " ++ n : Str).length ≤ 17 := by rw [hz]; exact hrw
        rw [Str.length_append] at h1
        refine ⟨_, _, rfl, rfl, szn (by omega), ?_⟩
        walk_at "rd"
        refine ⟨_, _, rfl, rfl, szn (by rw [hz]; omega), ?_⟩
        exact fin hz
    intro H9 A9
    have hlwl : lw.length = tb.length := by rw [← hlw, List.length_map]
    rw [List.length_map, ← hlwl, List.take_length] at A9
    have hsum : ((lw.map lineW).map (·.length)).sum + (lw.map lineW).length * ("" : Str).length ≤ 16777216 := by
      have h1 := lines_sum hgb.old hgb.new
      rw [show ("" : Str).length = 0 by decide +kernel]
      omega
    refine ⟨_, D, lw.map lineW, rfl, rfl, .inl (A9.lst 3 rfl), hsum, ?_⟩
    have hb0 : Bd 180 10 (textW lw) := text_bd hgb (by omega)
    show gName 6 (.str (textW lw)) _ _ _
    generalize htx : textW lw = tx at *
    walk_at "rd"
    refine ⟨S, z, s4, tx, ps, 180, 10, rfl, A9.get 0 rfl, hs4, A9.get 1 rfl, hp, hb0, by decide, by decide, fun s5 t5 H10 hs5 hb5 k10 hS10 => ?_⟩
    have A10 := A9.c1 0 rfl k10 hS10
    walk_at "rd"
    refine ⟨fun σ H' => ∃ (s : Int) (t6 : Str) (y8 y9 : Option V), Bd 783 12 t6 ∧ σ = [some (.ref a), some (.int (i : Nat)), some (.int cell), some (.ref S), some (.ref z), some (.ref pb), some (.str tx), some (.str t6), y8, y9] ∧
      At [] H H' [(S, .lst [.int s]), (z, .lst (ps.map V.str)), (pb, .lst (tb.map fun x : Addr × (Str × Option Str) => V.ref x.1)), (D, .lst ((lw.map lineW).map V.str))] (tb.map tP), ?_, ?_⟩
    · walk_at "rd"
      refine rd_next A10 0 rfl hs5 (by decide) fun s6 r6 H11 hs6 _ _ A11 => ?_
      walk_at "rd"
      refine rd_ite (fun _ => ?_) (fun _ => ?_)
      · walk_at "rd"
        refine ⟨S, z, s6, t5, ps, 381, 11, rfl, A11.get 0 rfl, hs6, A11.get 1 rfl, hp, hb5, by decide, by decide, fun s7 t7 H12 hs7 hb7 k12 hS12 => ?_⟩
        have A12 := A11.c1 0 rfl k12 hS12
        walk_at "rd"
        exact ⟨s7, t7, _, _, hb7, rfl, A12⟩
      · walk_at "rd"
        exact ⟨s6, t5, _, _, hb5.mono (by decide) (by decide), rfl, A11⟩
    rintro σ H11 ⟨s6, t6, y8, y9, hb6, rfl, A11⟩
    walk_at "rd"
    obtain ⟨ys, rest, R⟩ := hb6.rows
    have hyl : ys.length < 60 := by have := R.cnt; omega
    refine ⟨t6, rest, ys, 783, 12, rfl, hb6, R, by decide, by decide, fun H12 v1 d1 hd1 k12 dp1 => ?_⟩
    have A12 := A11.c0 k12
    walk_at "rd"
    refine ⟨t6, rest, ys, 783, 12, rfl, hb6, R, by decide, by decide, fun H13 v2 d2 hd2 k13 dp2 => ?_⟩
    have A13 := A12.c0 k13
    obtain ⟨hdd, hsm⟩ := due_fact hyl hd1 hd2
    subst hdd
    refine ⟨_, _, dp1 _ k13, dp2 _ (Kp.refl _), sm_shaped hsm (by decide), sm_shaped hsm (by decide), ?_⟩
    rw [SeqAt.eqv_refl _ (SeqAt.canLay_of_shaped (sm_shaped hsm (by decide)))]
    refine rd_bl ?_
    walk_at "rd"
    obtain ⟨ys2, rest2, R2⟩ := hb0.rows
    have hyl2 : ys2.length < 60 := by have := R2.cnt; omega
    obtain ⟨er1, er2⟩ : ys2 = lw.map rowW ∧ rest2 = "" := by
      rw [← htx] at R2
      exact text_rows hgb R2
    refine ⟨tx, rest2, ys2, 180, 10, rfl, hb0, R2, by decide, by decide, fun H14 v3 d3 hd3 k14 dp3 => ?_⟩
    have A14 := A13.c0 k14
    obtain ⟨lv3, p3, s3', e3⟩ := hd3.2 lw (by rw [er1, er2]; exact read_rows hgb)
    have elv : lv3 = lw := lv_eq hgb.oldsNd p3 (List.Perm.refl _) s3' hsb
    subst elv
    obtain ⟨_, hsm3⟩ := due_fact hyl2 hd3 hd3
    walk_at "rd"
    refine ⟨szl, fun pt hpt => ?_⟩
    have A15 := A14.snoc hpt (.tup [.str "told", .ref pb])
    have kk : Kp [] H14 (upd H14 pt (.tup [.str "told", .ref pb])) := fun b ob hb _ => by rw [upd_ne (ne_of_none hb hpt)]; exact hb
    have dl : Dp K (upd H14 pt (.tup [.str "told", .ref pb])) (.ref pb) (.list (lv3.map dP)) := .lst (A15.lst 2 rfl) (by
      have := dpa_prs (K := K) (te := tb) (fun x hx => A15.tm x hx)
      rw [hlw] at this; exact this)
    have d4 : Dp K (upd H14 pt (.tup [.str "told", .ref pb])) (.ref pt) d3 := by
      rw [e3]
      exact .tup (A15.tup 4 rfl) (.cons (.str _) (.cons dl .nil))
    refine ⟨_, _, dp3 _ kk, d4, sm_shaped hsm3 (by decide), sm_shaped hsm3 (by decide), ?_⟩
    rw [SeqAt.eqv_refl _ (SeqAt.canLay_of_shaped (sm_shaped hsm3 (by decide)))]
    refine rd_bl ?_
    walk_at "rd"
    exact ⟨_, _, _, _, _, _, _, _, _, rfl, (A15.sel (L' := []) (by simp) (by walk_at "sub")).selT [] (by simp)⟩
  · rintro σ H1 ⟨y1, y2, y3, y4, y5, y6, y7, y8, y9, rfl, A1⟩
    walk_at "rd"
    exact q _
end
end Nn

namespace Nn
open PySem PySem.Spec PyProof.Rows L2
/-! ### what the top has left, the theorem -/
theorem all_mk {l : PySem.W.OpenLaw} {w : World} {K : PySem.W.Frag} {h : Heap} {mg : Str → Option Value} {fa : Addr} (X : K.In h) (G : h.Ns mainGlobals mg) (hfa : mg "law" = some (.ref fa))
    {f0 f1 f2 f3 f4 f5 f6 f7 f8 f9 f10 f11 f12 f13 f14 f15 f16 f17 f18 : Addr}
    {od0 an0 od1 an1 od2 an2 od3 an3 od4 an4 od5 an5 od6 an6 od7 an7 od8 an8 od9 an9 od10 an10 od11 an11 od12 an12 od13 an13 od14 an14 od15 an15 od16 an16 od17 an17 od18 an18 : Option Addr} {sl0 sl1 sl2 sl3 sl4 sl5 sl6 sl7 sl8 sl9 sl10 sl11 sl12 sl13 sl14 sl15 sl16 sl17 sl18 : Array (Option Value)} {oc0 kV0 dc0 pm0 cd0 ct0 oc1 kV1 dc1 pm1 cd1 ct1 oc2 kV2 dc2 pm2 cd2 ct2 oc3 kV3 dc3 pm3 cd3 ct3 oc4 kV4 dc4 pm4 cd4 ct4 oc5 kV5 dc5 pm5 cd5 ct5 oc6 kV6 dc6 pm6 cd6 ct6 oc7 kV7 dc7 pm7 cd7 ct7 oc8 kV8 dc8 pm8 cd8 ct8 oc9 kV9 dc9 pm9 cd9 ct9 oc10 kV10 dc10 pm10 cd10 ct10 oc11 kV11 dc11 pm11 cd11 ct11 oc12 kV12 dc12 pm12 cd12 ct12 oc13 kV13 dc13 pm13 cd13 ct13 oc14 kV14 dc14 pm14 cd14 ct14 oc15 kV15 dc15 pm15 cd15 ct15 oc16 kV16 dc16 pm16 cd16 ct16 oc17 kV17 dc17 pm17 cd17 ct17 oc18 kV18 dc18 pm18 cd18 ct18 : Value}
    {C0 mf0_0 mf0_1 : Addr} {mod0_0 mod0_1 man0_0 man0_1 : Option Addr} {msl0_0 msl0_1 : Array (Option Value)} {moc0_0 moc0_1 mkV0_0 mkV0_1 mdc0_0 mdc0_1 mpm0_0 mpm0_1 mcd0_0 mcd0_1 mct0_0 mct0_1 : Value}
    {tk0 tk1 : Tok}
    {CN E0 E1 E2 E3 E4 E5 E6 : Addr}
    {en6 eq6 : Str} {eN6 ef6 ecda6 ecc6 : Addr} {ebs6 esub6 : List Value} {esn6 : List Str} {eab6 : Bool} {ecol6 : Option Bool} {edd6 eod6 ean6 ecdd6 ecld6 : Option Addr} {ek0_6 ek1_6 ek2_6 ek3_6 ek5_6 : Option Value} {eoc6 ekV6 edc6 epm6 ect6 eccl6 ecl6 : Value} {esl6 eccs6 ecsl6 : Array (Option Value)} {evs6 : Array Value} {efile6 : Str} {etf6 : Tok}
    (a0 : PySem.W.nsIn K mainGlobals "is_name" = some (some (.ref f0)))
    (l0 : K.lookup f0 = some ⟨oc0, od0, .func (PySem.W.fnOf "is_name" "is_name" (defArgs sis_name) (defBody sis_name) (defScope sis_name) .none kV0 dc0 pm0 an0 cd0 ct0), sl0⟩)
    (c0 : PySem.W.codeIn K cd0 "is_name" = true)
    (k0 : PySem.W.keepIn K (.ref f0) = true)
    (a1 : PySem.W.nsIn K mainGlobals "check_name" = some (some (.ref f1)))
    (l1 : K.lookup f1 = some ⟨oc1, od1, .func (PySem.W.fnOf "check_name" "check_name" (defArgs scheck_name) (defBody scheck_name) (defScope scheck_name) .none kV1 dc1 pm1 an1 cd1 ct1), sl1⟩)
    (c1 : PySem.W.codeIn K cd1 "check_name" = true)
    (k1 : PySem.W.keepIn K (.ref f1) = true)
    (a2 : PySem.W.nsIn K mainGlobals "read" = some (some (.ref f2)))
    (l2 : K.lookup f2 = some ⟨oc2, od2, .func (PySem.W.fnOf "read" "read" (defArgs sread) (defBody sread) (defScope sread) .none kV2 dc2 pm2 an2 cd2 ct2), sl2⟩)
    (c2 : PySem.W.codeIn K cd2 "read" = true)
    (k2 : PySem.W.keepIn K (.ref f2) = true)
    (a3 : PySem.W.nsIn K mainGlobals "plan_of" = some (some (.ref f3)))
    (l3 : K.lookup f3 = some ⟨oc3, od3, .func (PySem.W.fnOf "plan_of" "plan_of" (defArgs splan_of) (defBody splan_of) (defScope splan_of) .none kV3 dc3 pm3 an3 cd3 ct3), sl3⟩)
    (c3 : PySem.W.codeIn K cd3 "plan_of" = true)
    (k3 : PySem.W.keepIn K (.ref f3) = true)
    (a4 : PySem.W.nsIn K mainGlobals "_pair" = some (some (.ref f4)))
    (l4 : K.lookup f4 = some ⟨oc4, od4, .func (PySem.W.fnOf "_pair" "_pair" (defArgs s_pair) (defBody s_pair) (defScope s_pair) .none kV4 dc4 pm4 an4 cd4 ct4), sl4⟩)
    (c4 : PySem.W.codeIn K cd4 "_pair" = true)
    (k4 : PySem.W.keepIn K (.ref f4) = true)
    (a5 : PySem.W.nsIn K mainGlobals "_law_state" = some (some (.ref f5)))
    (l5 : K.lookup f5 = some ⟨oc5, od5, .func (PySem.W.fnOf "_law_state" "_law_state" (defArgs s_law_state) (defBody s_law_state) (defScope s_law_state) .none kV5 dc5 pm5 an5 cd5 ct5), sl5⟩)
    (c5 : PySem.W.codeIn K cd5 "_law_state" = true)
    (k5 : PySem.W.keepIn K (.ref f5) = true)
    (a6 : PySem.W.nsIn K mainGlobals "_law_next" = some (some (.ref f6)))
    (l6 : K.lookup f6 = some ⟨oc6, od6, .func (PySem.W.fnOf "_law_next" "_law_next" (defArgs s_law_next) (defBody s_law_next) (defScope s_law_next) .none kV6 dc6 pm6 an6 cd6 ct6), sl6⟩)
    (c6 : PySem.W.codeIn K cd6 "_law_next" = true)
    (k6 : PySem.W.keepIn K (.ref f6) = true)
    (a7 : PySem.W.nsIn K mainGlobals "_law_pool" = some (some (.ref f7)))
    (l7 : K.lookup f7 = some ⟨oc7, od7, .func (PySem.W.fnOf "_law_pool" "_law_pool" (defArgs s_law_pool) (defBody s_law_pool) (defScope s_law_pool) .none kV7 dc7 pm7 an7 cd7 ct7), sl7⟩)
    (c7 : PySem.W.codeIn K cd7 "_law_pool" = true)
    (k7 : PySem.W.keepIn K (.ref f7) = true)
    (a8 : PySem.W.nsIn K mainGlobals "_law_turned" = some (some (.ref f8)))
    (l8 : K.lookup f8 = some ⟨oc8, od8, .func (PySem.W.fnOf "_law_turned" "_law_turned" (defArgs s_law_turned) (defBody s_law_turned) (defScope s_law_turned) .none kV8 dc8 pm8 an8 cd8 ct8), sl8⟩)
    (c8 : PySem.W.codeIn K cd8 "_law_turned" = true)
    (k8 : PySem.W.keepIn K (.ref f8) = true)
    (a9 : PySem.W.nsIn K mainGlobals "_law_thing" = some (some (.ref f9)))
    (l9 : K.lookup f9 = some ⟨oc9, od9, .func (PySem.W.fnOf "_law_thing" "_law_thing" (defArgs s_law_thing) (defBody s_law_thing) (defScope s_law_thing) .none kV9 dc9 pm9 an9 cd9 ct9), sl9⟩)
    (c9 : PySem.W.codeIn K cd9 "_law_thing" = true)
    (k9 : PySem.W.keepIn K (.ref f9) = true)
    (a10 : PySem.W.nsIn K mainGlobals "_law_things" = some (some (.ref f10)))
    (l10 : K.lookup f10 = some ⟨oc10, od10, .func (PySem.W.fnOf "_law_things" "_law_things" (defArgs s_law_things) (defBody s_law_things) (defScope s_law_things) .none kV10 dc10 pm10 an10 cd10 ct10), sl10⟩)
    (c10 : PySem.W.codeIn K cd10 "_law_things" = true)
    (k10 : PySem.W.keepIn K (.ref f10) = true)
    (a11 : PySem.W.nsIn K mainGlobals "_law_pairs" = some (some (.ref f11)))
    (l11 : K.lookup f11 = some ⟨oc11, od11, .func (PySem.W.fnOf "_law_pairs" "_law_pairs" (defArgs s_law_pairs) (defBody s_law_pairs) (defScope s_law_pairs) .none kV11 dc11 pm11 an11 cd11 ct11), sl11⟩)
    (c11 : PySem.W.codeIn K cd11 "_law_pairs" = true)
    (k11 : PySem.W.keepIn K (.ref f11) = true)
    (a12 : PySem.W.nsIn K mainGlobals "_law_by_olds" = some (some (.ref f12)))
    (l12 : K.lookup f12 = some ⟨oc12, od12, .func (PySem.W.fnOf "_law_by_olds" "_law_by_olds" (defArgs s_law_by_olds) (defBody s_law_by_olds) (defScope s_law_by_olds) .none kV12 dc12 pm12 an12 cd12 ct12), sl12⟩)
    (c12 : PySem.W.codeIn K cd12 "_law_by_olds" = true)
    (k12 : PySem.W.keepIn K (.ref f12) = true)
    (a13 : PySem.W.nsIn K mainGlobals "_law_word_of" = some (some (.ref f13)))
    (l13 : K.lookup f13 = some ⟨oc13, od13, .func (PySem.W.fnOf "_law_word_of" "_law_word_of" (defArgs s_law_word_of) (defBody s_law_word_of) (defScope s_law_word_of) .none kV13 dc13 pm13 an13 cd13 ct13), sl13⟩)
    (c13 : PySem.W.codeIn K cd13 "_law_word_of" = true)
    (k13 : PySem.W.keepIn K (.ref f13) = true)
    (a14 : PySem.W.nsIn K mainGlobals "_law_is_name" = some (some (.ref f14)))
    (l14 : K.lookup f14 = some ⟨oc14, od14, .func (PySem.W.fnOf "_law_is_name" "_law_is_name" (defArgs s_law_is_name) (defBody s_law_is_name) (defScope s_law_is_name) .none kV14 dc14 pm14 an14 cd14 ct14), sl14⟩)
    (c14 : PySem.W.codeIn K cd14 "_law_is_name" = true)
    (k14 : PySem.W.keepIn K (.ref f14) = true)
    (a15 : PySem.W.nsIn K mainGlobals "_law_due" = some (some (.ref f15)))
    (l15 : K.lookup f15 = some ⟨oc15, od15, .func (PySem.W.fnOf "_law_due" "_law_due" (defArgs s_law_due) (defBody s_law_due) (defScope s_law_due) .none kV15 dc15 pm15 an15 cd15 ct15), sl15⟩)
    (c15 : PySem.W.codeIn K cd15 "_law_due" = true)
    (k15 : PySem.W.keepIn K (.ref f15) = true)
    (a16 : PySem.W.nsIn K mainGlobals "_law_told" = some (some (.ref f16)))
    (l16 : K.lookup f16 = some ⟨oc16, od16, .func (PySem.W.fnOf "_law_told" "_law_told" (defArgs s_law_told) (defBody s_law_told) (defScope s_law_told) .none kV16 dc16 pm16 an16 cd16 ct16), sl16⟩)
    (c16 : PySem.W.codeIn K cd16 "_law_told" = true)
    (k16 : PySem.W.keepIn K (.ref f16) = true)
    (a17 : PySem.W.nsIn K mainGlobals "_law_spoilt" = some (some (.ref f17)))
    (l17 : K.lookup f17 = some ⟨oc17, od17, .func (PySem.W.fnOf "_law_spoilt" "_law_spoilt" (defArgs s_law_spoilt) (defBody s_law_spoilt) (defScope s_law_spoilt) .none kV17 dc17 pm17 an17 cd17 ct17), sl17⟩)
    (c17 : PySem.W.codeIn K cd17 "_law_spoilt" = true)
    (k17 : PySem.W.keepIn K (.ref f17) = true)
    (a18 : PySem.W.nsIn K mainGlobals "law" = some (some (.ref f18)))
    (l18 : K.lookup f18 = some ⟨oc18, od18, .func (PySem.W.fnOf "law" "law" (defArgs slaw) (defBody slaw) (defScope slaw) .none kV18 dc18 pm18 an18 cd18 ct18), sl18⟩)
    (c18 : PySem.W.codeIn K cd18 "law" = true)
    (k18 : PySem.W.keepIn K (.ref f18) = true)
    (ac0 : PySem.W.nsIn K mainGlobals "Plan" = some (some (.ref C0)))
    (pg0 : PySem.W.plainGet K C0 Str.empty = true)
    (hd0 : PySem.W.hasDictIn K C0 = true)
    (po0 : PySem.W.plainOver K C0 = true)
    (sa0 : PySem.W.findIn K (.ref C0) "__setattr__" = some (some (.builtin "object.__setattr__")))
    (kk0 : PySem.W.keepIn K (.ref C0) = true)
    (mk0 : PySem.W.makesIn K C0 = true)
    (na0_0 : PySem.W.findIn K (.ref C0) "_leads" = some none)
    (ma0_0 : PySem.W.findIn K (.ref C0) "__init__" = some (some (.ref mf0_0)))
    (mi0_0 : PySem.W.isFn K (.ref mf0_0) = true)
    (ml0_0 : K.lookup mf0_0 = some ⟨moc0_0, mod0_0, .func (PySem.W.fnOf "__init__" "Plan.__init__" (defArgs sPlan___init__) (defBody sPlan___init__) (defScope sPlan___init__) .none mkV0_0 mdc0_0 mpm0_0 man0_0 mcd0_0 mct0_0), msl0_0⟩)
    (mc0_0 : PySem.W.codeIn K mcd0_0 "Plan.__init__" = true)
    (mp0_0 : PySem.W.keepIn K (.ref mf0_0) = true)
    (ma0_1 : PySem.W.findIn K (.ref C0) "pairs" = some (some (.ref mf0_1)))
    (mi0_1 : PySem.W.isFn K (.ref mf0_1) = true)
    (ml0_1 : K.lookup mf0_1 = some ⟨moc0_1, mod0_1, .func (PySem.W.fnOf "pairs" "Plan.pairs" (defArgs sPlan_pairs) (defBody sPlan_pairs) (defScope sPlan_pairs) .none mkV0_1 mdc0_1 mpm0_1 man0_1 mcd0_1 mct0_1), msl0_1⟩)
    (mc0_1 : PySem.W.codeIn K mcd0_1 "Plan.pairs" = true)
    (mp0_1 : PySem.W.keepIn K (.ref mf0_1) = true)
    (kc0 : PySem.W.nsIn K mainGlobals "LONGEST" = some (some (.int 8 tk0)))
    (kc1 : PySem.W.nsIn K mainGlobals "LET_GO" = some (some (.str "-" tk1)))
    (z0 : PySem.W.nsIn K mainGlobals "len" = some none)
    (z1 : PySem.W.nsIn K mainGlobals "isinstance" = some none)
    (z2 : PySem.W.nsIn K mainGlobals "str" = some none)
    (z3 : PySem.W.nsIn K mainGlobals "all" = some none)
    (z4 : PySem.W.nsIn K mainGlobals "enumerate" = some none)
    (z5 : PySem.W.nsIn K mainGlobals "range" = some none)
    (z6 : PySem.W.nsIn K mainGlobals "bool" = some none)
    (z7 : PySem.W.nsIn K mainGlobals "tuple" = some none)
    (z8 : PySem.W.nsIn K mainGlobals "dict" = some none)
    (z9 : PySem.W.nsIn K mainGlobals "list" = some none)
    (z10 : PySem.W.nsIn K mainGlobals "sorted" = some none)
    (z11 : PySem.W.nsIn K mainGlobals "set" = some none)
    (z12 : PySem.W.nsIn K mainGlobals "zip" = some none)
    (z13 : PySem.W.nsIn K mainGlobals "int" = some none)
    (z14 : PySem.W.nsIn K mainGlobals "min" = some none)
    (z15 : PySem.W.nsIn K mainGlobals "repr" = some none)
    (z16 : PySem.W.nsIn K mainGlobals "ValueError" = some none)
    (z17 : PySem.W.nsIn K mainGlobals "super" = some none)
    (aN : PySem.W.nsIn K mainGlobals "NewError" = some (some (.ref CN)))
    (bN : PySem.W.subIn K (.ref CN) (.type "BaseException") = some true)
    (iN : PySem.W.isClsIn K CN = true)
    (tN : PySem.W.typeIn K (.ref CN) = some (.type "type"))
    (on : PySem.W.specialIn K (.builtin "object.__class__") "__get__" = some (some (.builtin "getset_descriptor.__get__")))
    (ot : PySem.W.takesIn K (.builtin "object.__class__") = some true)
    (ea0 : PySem.W.nsIn K mainGlobals "NoName" = some (some (.ref E0)))
    (ea1 : PySem.W.nsIn K mainGlobals "Twice" = some (some (.ref E1)))
    (ea2 : PySem.W.nsIn K mainGlobals "Missing" = some (some (.ref E2)))
    (ea3 : PySem.W.nsIn K mainGlobals "Held" = some (some (.ref E3)))
    (ea4 : PySem.W.nsIn K mainGlobals "LetGo" = some (some (.ref E4)))
    (ea5 : PySem.W.nsIn K mainGlobals "NoSpare" = some (some (.ref E5)))
    (ea6 : PySem.W.nsIn K mainGlobals "NoRow" = some (some (.ref E6)))
    (eg0 : PySem.W.findIn K (.ref E0) "__getattribute__" = some (some (.builtin "BaseException.__getattribute__")))
    (et0 : PySem.W.findIn K (.ref E0) "__getattr__" = some none)
    (eb0 : PySem.W.subIn K (.ref E0) (.type "BaseException") = some true)
    (eh0 : PySem.W.hasDictIn K E0 = true)
    (ec0 : PySem.W.findIn K (.ref E0) "__class__" = some (some (.builtin "object.__class__")))
    (em0 : PySem.W.mroIn K E0 (.type "object") = some true)
    (es0 : PySem.W.subIn K (.ref E0) (.ref CN) = some true)
    (ev0 : PySem.W.kitOne K (.ref E0) (.type "ValueError") = some true)
    (ey0 : PySem.W.typeIn K (.ref E0) = some (.type "type"))
    (ekp0 : PySem.W.keepIn K (.ref E0) = true)
    (e0_0 : PySem.W.kitOne K (.ref E0) (.ref E0) = some true)
    (e0_1 : PySem.W.kitOne K (.ref E0) (.ref E1) = some false)
    (e0_2 : PySem.W.kitOne K (.ref E0) (.ref E2) = some false)
    (e0_3 : PySem.W.kitOne K (.ref E0) (.ref E3) = some false)
    (e0_4 : PySem.W.kitOne K (.ref E0) (.ref E4) = some false)
    (e0_5 : PySem.W.kitOne K (.ref E0) (.ref E5) = some false)
    (e0_6 : PySem.W.kitOne K (.ref E0) (.ref E6) = some false)
    (eg1 : PySem.W.findIn K (.ref E1) "__getattribute__" = some (some (.builtin "BaseException.__getattribute__")))
    (et1 : PySem.W.findIn K (.ref E1) "__getattr__" = some none)
    (eb1 : PySem.W.subIn K (.ref E1) (.type "BaseException") = some true)
    (eh1 : PySem.W.hasDictIn K E1 = true)
    (ec1 : PySem.W.findIn K (.ref E1) "__class__" = some (some (.builtin "object.__class__")))
    (em1 : PySem.W.mroIn K E1 (.type "object") = some true)
    (es1 : PySem.W.subIn K (.ref E1) (.ref CN) = some true)
    (ev1 : PySem.W.kitOne K (.ref E1) (.type "ValueError") = some true)
    (ey1 : PySem.W.typeIn K (.ref E1) = some (.type "type"))
    (ekp1 : PySem.W.keepIn K (.ref E1) = true)
    (e1_0 : PySem.W.kitOne K (.ref E1) (.ref E0) = some false)
    (e1_1 : PySem.W.kitOne K (.ref E1) (.ref E1) = some true)
    (e1_2 : PySem.W.kitOne K (.ref E1) (.ref E2) = some false)
    (e1_3 : PySem.W.kitOne K (.ref E1) (.ref E3) = some false)
    (e1_4 : PySem.W.kitOne K (.ref E1) (.ref E4) = some false)
    (e1_5 : PySem.W.kitOne K (.ref E1) (.ref E5) = some false)
    (e1_6 : PySem.W.kitOne K (.ref E1) (.ref E6) = some false)
    (ef_1 : PySem.W.findIn K (.ref E1) "name" = some none)
    (eg2 : PySem.W.findIn K (.ref E2) "__getattribute__" = some (some (.builtin "BaseException.__getattribute__")))
    (et2 : PySem.W.findIn K (.ref E2) "__getattr__" = some none)
    (eb2 : PySem.W.subIn K (.ref E2) (.type "BaseException") = some true)
    (eh2 : PySem.W.hasDictIn K E2 = true)
    (ec2 : PySem.W.findIn K (.ref E2) "__class__" = some (some (.builtin "object.__class__")))
    (em2 : PySem.W.mroIn K E2 (.type "object") = some true)
    (es2 : PySem.W.subIn K (.ref E2) (.ref CN) = some true)
    (ev2 : PySem.W.kitOne K (.ref E2) (.type "ValueError") = some true)
    (ey2 : PySem.W.typeIn K (.ref E2) = some (.type "type"))
    (ekp2 : PySem.W.keepIn K (.ref E2) = true)
    (e2_0 : PySem.W.kitOne K (.ref E2) (.ref E0) = some false)
    (e2_1 : PySem.W.kitOne K (.ref E2) (.ref E1) = some false)
    (e2_2 : PySem.W.kitOne K (.ref E2) (.ref E2) = some true)
    (e2_3 : PySem.W.kitOne K (.ref E2) (.ref E3) = some false)
    (e2_4 : PySem.W.kitOne K (.ref E2) (.ref E4) = some false)
    (e2_5 : PySem.W.kitOne K (.ref E2) (.ref E5) = some false)
    (e2_6 : PySem.W.kitOne K (.ref E2) (.ref E6) = some false)
    (ef_2 : PySem.W.findIn K (.ref E2) "name" = some none)
    (eg3 : PySem.W.findIn K (.ref E3) "__getattribute__" = some (some (.builtin "BaseException.__getattribute__")))
    (et3 : PySem.W.findIn K (.ref E3) "__getattr__" = some none)
    (eb3 : PySem.W.subIn K (.ref E3) (.type "BaseException") = some true)
    (eh3 : PySem.W.hasDictIn K E3 = true)
    (ec3 : PySem.W.findIn K (.ref E3) "__class__" = some (some (.builtin "object.__class__")))
    (em3 : PySem.W.mroIn K E3 (.type "object") = some true)
    (es3 : PySem.W.subIn K (.ref E3) (.ref CN) = some true)
    (ev3 : PySem.W.kitOne K (.ref E3) (.type "ValueError") = some true)
    (ey3 : PySem.W.typeIn K (.ref E3) = some (.type "type"))
    (ekp3 : PySem.W.keepIn K (.ref E3) = true)
    (e3_0 : PySem.W.kitOne K (.ref E3) (.ref E0) = some false)
    (e3_1 : PySem.W.kitOne K (.ref E3) (.ref E1) = some false)
    (e3_2 : PySem.W.kitOne K (.ref E3) (.ref E2) = some false)
    (e3_3 : PySem.W.kitOne K (.ref E3) (.ref E3) = some true)
    (e3_4 : PySem.W.kitOne K (.ref E3) (.ref E4) = some false)
    (e3_5 : PySem.W.kitOne K (.ref E3) (.ref E5) = some false)
    (e3_6 : PySem.W.kitOne K (.ref E3) (.ref E6) = some false)
    (ef_3 : PySem.W.findIn K (.ref E3) "name" = some none)
    (eg4 : PySem.W.findIn K (.ref E4) "__getattribute__" = some (some (.builtin "BaseException.__getattribute__")))
    (et4 : PySem.W.findIn K (.ref E4) "__getattr__" = some none)
    (eb4 : PySem.W.subIn K (.ref E4) (.type "BaseException") = some true)
    (eh4 : PySem.W.hasDictIn K E4 = true)
    (ec4 : PySem.W.findIn K (.ref E4) "__class__" = some (some (.builtin "object.__class__")))
    (em4 : PySem.W.mroIn K E4 (.type "object") = some true)
    (es4 : PySem.W.subIn K (.ref E4) (.ref CN) = some true)
    (ev4 : PySem.W.kitOne K (.ref E4) (.type "ValueError") = some true)
    (ey4 : PySem.W.typeIn K (.ref E4) = some (.type "type"))
    (ekp4 : PySem.W.keepIn K (.ref E4) = true)
    (e4_0 : PySem.W.kitOne K (.ref E4) (.ref E0) = some false)
    (e4_1 : PySem.W.kitOne K (.ref E4) (.ref E1) = some false)
    (e4_2 : PySem.W.kitOne K (.ref E4) (.ref E2) = some false)
    (e4_3 : PySem.W.kitOne K (.ref E4) (.ref E3) = some false)
    (e4_4 : PySem.W.kitOne K (.ref E4) (.ref E4) = some true)
    (e4_5 : PySem.W.kitOne K (.ref E4) (.ref E5) = some false)
    (e4_6 : PySem.W.kitOne K (.ref E4) (.ref E6) = some false)
    (ef_4 : PySem.W.findIn K (.ref E4) "name" = some none)
    (eg5 : PySem.W.findIn K (.ref E5) "__getattribute__" = some (some (.builtin "BaseException.__getattribute__")))
    (et5 : PySem.W.findIn K (.ref E5) "__getattr__" = some none)
    (eb5 : PySem.W.subIn K (.ref E5) (.type "BaseException") = some true)
    (eh5 : PySem.W.hasDictIn K E5 = true)
    (ec5 : PySem.W.findIn K (.ref E5) "__class__" = some (some (.builtin "object.__class__")))
    (em5 : PySem.W.mroIn K E5 (.type "object") = some true)
    (es5 : PySem.W.subIn K (.ref E5) (.ref CN) = some true)
    (ev5 : PySem.W.kitOne K (.ref E5) (.type "ValueError") = some true)
    (ey5 : PySem.W.typeIn K (.ref E5) = some (.type "type"))
    (ekp5 : PySem.W.keepIn K (.ref E5) = true)
    (e5_0 : PySem.W.kitOne K (.ref E5) (.ref E0) = some false)
    (e5_1 : PySem.W.kitOne K (.ref E5) (.ref E1) = some false)
    (e5_2 : PySem.W.kitOne K (.ref E5) (.ref E2) = some false)
    (e5_3 : PySem.W.kitOne K (.ref E5) (.ref E3) = some false)
    (e5_4 : PySem.W.kitOne K (.ref E5) (.ref E4) = some false)
    (e5_5 : PySem.W.kitOne K (.ref E5) (.ref E5) = some true)
    (e5_6 : PySem.W.kitOne K (.ref E5) (.ref E6) = some false)
    (ef_5 : PySem.W.findIn K (.ref E5) "ring" = some none)
    (eg6 : PySem.W.findIn K (.ref E6) "__getattribute__" = some (some (.builtin "BaseException.__getattribute__")))
    (et6 : PySem.W.findIn K (.ref E6) "__getattr__" = some none)
    (eb6 : PySem.W.subIn K (.ref E6) (.type "BaseException") = some true)
    (eh6 : PySem.W.hasDictIn K E6 = true)
    (ec6 : PySem.W.findIn K (.ref E6) "__class__" = some (some (.builtin "object.__class__")))
    (em6 : PySem.W.mroIn K E6 (.type "object") = some true)
    (es6 : PySem.W.subIn K (.ref E6) (.ref CN) = some true)
    (ev6 : PySem.W.kitOne K (.ref E6) (.type "ValueError") = some true)
    (ey6 : PySem.W.typeIn K (.ref E6) = some (.type "type"))
    (ekp6 : PySem.W.keepIn K (.ref E6) = true)
    (e6_0 : PySem.W.kitOne K (.ref E6) (.ref E0) = some false)
    (e6_1 : PySem.W.kitOne K (.ref E6) (.ref E1) = some false)
    (e6_2 : PySem.W.kitOne K (.ref E6) (.ref E2) = some false)
    (e6_3 : PySem.W.kitOne K (.ref E6) (.ref E3) = some false)
    (e6_4 : PySem.W.kitOne K (.ref E6) (.ref E4) = some false)
    (e6_5 : PySem.W.kitOne K (.ref E6) (.ref E5) = some false)
    (e6_6 : PySem.W.kitOne K (.ref E6) (.ref E6) = some true)
    (ef_6 : PySem.W.findIn K (.ref E6) "row" = some none)
    (htop : (l.prog.main.scope.names.lookup ("super" : Str)).isSome = false)
    (hsta : PySem.W.nsIn K PySem.cStatics "thirdparty.any" = some none)
    (xl6 : K.lookup E6 = some (excClassObj en6 eq6 E6 eN6 ebs6 (.ref CN :: [.type "ValueError", .type "Exception", .type "BaseException", .type "object"]) true esn6 esub6 eab6 ecol6 edd6 ek0_6 ek1_6 ek2_6 ek3_6 ek5_6 "ValueError.__new__"))
    (xs6 : PySem.W.findIn K (.ref E6) "__setattr__" = some (some (.builtin "object.__setattr__")))
    (xi6 : PySem.W.findIn K (.ref E6) "__init__" = some (some (.ref ef6)))
    (xt6 : PySem.W.typeIn K (.ref ef6) = some (.type "function"))
    (xu6 : PySem.W.ks_superIn K E6 E6 "__init__" = some (some (.builtin "ValueError.__init__")))
    (xm6 : PySem.W.mroIn K E6 (.ref E6) = some true)
    (xv6 : PySem.W.subIn K (.ref E6) (.type "ValueError") = some true)
    (xf6 : K.lookup ef6 = some ⟨eoc6, eod6, .func (PySem.W.fnX "__init__" "NoRow.__init__" (defArgs sNoRow___init__) (defBody sNoRow___init__) (defScope sNoRow___init__) [("__class__", ecc6)] .none ekV6 edc6 epm6 ean6 (.ref ecda6) ect6), esl6⟩)
    (xc6 : PySem.W.codeIn K (.ref ecda6) "NoRow.__init__" = true)
    (xk6 : PySem.W.keepIn K (.ref ef6) = true)
    (xd6 : K.lookup ecda6 = some ⟨eccl6, ecdd6, .fields evs6, eccs6⟩)
    (xe6 : evs6[2]? = some (.str efile6 etf6))
    (xg6 : ((l.prog.main.file : Str) == efile6) = true)
    (xh6 : K.lookup ecc6 = some ⟨ecl6, ecld6, .cell (some (.ref E6)), ecsl6⟩)
    : ∃ fd : FuncData, (∀ (s : Shared) (v : Value), BindsTo s fd ⟨[v], []⟩ [("_law_script", v)]) ∧ ∀ base : Heap, K.In base → base.Ns mainGlobals mg → FnOk l.prog w K mg base CX0 8 fa fd ["_law_script"] (spLaw K) := by
  have e := hfa.symm.trans (PySem.W.mg_of X G a18)
  cases e
  have B : Blt mg := blt_mk X G z0 z1 z2 z3 z4 z5 z6 z7 z8 z9 z10 z11 z12 z13 z14 z15 z16 z17
  have F0 := fun_mk (st := sis_name) l0 c0 k0
  have b0 := F0.binds (ps := ["thing"]) fun _ _ _ _ _ _ us hl => match us, hl with | [_], _ => rfl
  have m0 := PySem.W.mg_of X G a0
  have F1 := fun_mk (st := scheck_name) l1 c1 k1
  have b1 := F1.binds (ps := ["thing"]) fun _ _ _ _ _ _ us hl => match us, hl with | [_], _ => rfl
  have m1 := PySem.W.mg_of X G a1
  have F2 := fun_mk (st := sread) l2 c2 k2
  have b2 := F2.binds (ps := ["text"]) fun _ _ _ _ _ _ us hl => match us, hl with | [_], _ => rfl
  have m2 := PySem.W.mg_of X G a2
  have F3 := fun_mk (st := splan_of) l3 c3 k3
  have b3 := F3.binds (ps := ["rows", "first", "spare"]) fun _ _ _ _ _ _ us hl => match us, hl with | [_, _, _], _ => rfl
  have m3 := PySem.W.mg_of X G a3
  have F4 := fun_mk (st := s_pair) l4 c4 k4
  have b4 := F4.binds (ps := ["row"]) fun _ _ _ _ _ _ us hl => match us, hl with | [_], _ => rfl
  have m4 := PySem.W.mg_of X G a4
  have F5 := fun_mk (st := s_law_state) l5 c5 k5
  have b5 := F5.binds (ps := ["_law_cell", "_law_k"]) fun _ _ _ _ _ _ us hl => match us, hl with | [_, _], _ => rfl
  have m5 := PySem.W.mg_of X G a5
  have F6 := fun_mk (st := s_law_next) l6 c6 k6
  have b6 := F6.binds (ps := ["_law_state_here", "_law_size"]) fun _ _ _ _ _ _ us hl => match us, hl with | [_, _], _ => rfl
  have m6 := PySem.W.mg_of X G a6
  have F7 := fun_mk (st := s_law_pool) l7 c7 k7
  have b7 := F7.binds (ps := ["_law_state_here"]) fun _ _ _ _ _ _ us hl => match us, hl with | [_], _ => rfl
  have m7 := PySem.W.mg_of X G a7
  have F8 := fun_mk (st := s_law_turned) l8 c8 k8
  have b8 := F8.binds (ps := ["_law_state_here", "_law_things_here"]) fun _ _ _ _ _ _ us hl => match us, hl with | [_, _], _ => rfl
  have m8 := PySem.W.mg_of X G a8
  have F9 := fun_mk (st := s_law_thing) l9 c9 k9
  have b9 := F9.binds (ps := ["_law_state_here"]) fun _ _ _ _ _ _ us hl => match us, hl with | [_], _ => rfl
  have m9 := PySem.W.mg_of X G a9
  have F10 := fun_mk (st := s_law_things) l10 c10 k10
  have b10 := F10.binds (ps := ["_law_state_here", "_law_pool_here"]) fun _ _ _ _ _ _ us hl => match us, hl with | [_, _], _ => rfl
  have m10 := PySem.W.mg_of X G a10
  have F11 := fun_mk (st := s_law_pairs) l11 c11 k11
  have b11 := F11.binds (ps := ["_law_state_here", "_law_pool_here", "_law_things_here"]) fun _ _ _ _ _ _ us hl => match us, hl with | [_, _, _], _ => rfl
  have m11 := PySem.W.mg_of X G a11
  have F12 := fun_mk (st := s_law_by_olds) l12 c12 k12
  have b12 := F12.binds (ps := ["_law_pairs_here"]) fun _ _ _ _ _ _ us hl => match us, hl with | [_], _ => rfl
  have m12 := PySem.W.mg_of X G a12
  have F13 := fun_mk (st := s_law_word_of) l13 c13 k13
  have b13 := F13.binds (ps := ["_law_error"]) fun _ _ _ _ _ _ us hl => match us, hl with | [_], _ => rfl
  have m13 := PySem.W.mg_of X G a13
  have F14 := fun_mk (st := s_law_is_name) l14 c14 k14
  have b14 := F14.binds (ps := ["_law_word"]) fun _ _ _ _ _ _ us hl => match us, hl with | [_], _ => rfl
  have m14 := PySem.W.mg_of X G a14
  have F15 := fun_mk (st := s_law_due) l15 c15 k15
  have b15 := F15.binds (ps := ["_law_text"]) fun _ _ _ _ _ _ us hl => match us, hl with | [_], _ => rfl
  have m15 := PySem.W.mg_of X G a15
  have F16 := fun_mk (st := s_law_told) l16 c16 k16
  have b16 := F16.binds (ps := ["_law_text"]) fun _ _ _ _ _ _ us hl => match us, hl with | [_], _ => rfl
  have m16 := PySem.W.mg_of X G a16
  have F17 := fun_mk (st := s_law_spoilt) l17 c17 k17
  have b17 := F17.binds (ps := ["_law_state_here", "_law_text", "_law_pool_here"]) fun _ _ _ _ _ _ us hl => match us, hl with | [_, _, _], _ => rfl
  have m17 := PySem.W.mg_of X G a17
  have F18 := fun_mk (st := slaw) l18 c18 k18
  have gc0 : ∃ t, mg "LONGEST" = some (.int 8 t) := ⟨_, PySem.W.mg_of X G kc0⟩
  have gc1 : ∃ t, mg "LET_GO" = some (.str "-" t) := ⟨_, PySem.W.mg_of X G kc1⟩
  have gC0 := PySem.W.mg_of X G ac0
  have cls0 : Cls K C0 := ⟨pg0, hd0, po0, sa0⟩
  have F0_0 := fun_mk (st := sPlan___init__) ml0_0 mc0_0 mp0_0
  have B0_0 := F0_0.binds (ps := ["self", "pairs"]) fun _ _ _ _ _ _ us hl => match us, hl with | [_, _], _ => rfl
  have mk0_ : Mk K C0 mf0_0 := ⟨mk0, ma0_0, mi0_0, kk0⟩
  have F0_1 := fun_mk (st := sPlan_pairs) ml0_1 mc0_1 mp0_1
  have B0_1 := F0_1.binds (ps := ["self"]) fun _ _ _ _ _ _ us hl => match us, hl with | [_], _ => rfl
  have me0_1 : Meth K C0 "pairs" mf0_1 := ⟨ma0_1, mi0_1, mp0_1⟩
  let Cs : ErrCs := ⟨E0, E1, E2, E3, E4, E5, E6⟩
  have GW : GWord mg Cs := ⟨PySem.W.mg_of X G ea0, PySem.W.mg_of X G ea1, PySem.W.mg_of X G ea2, PySem.W.mg_of X G ea3, PySem.W.mg_of X G ea4, PySem.W.mg_of X G ea5, PySem.W.mg_of X G ea6⟩
  have Ex0 : ExcC K E0 := ⟨eg0, et0, eb0, eh0, ec0, on, ot, em0⟩
  have Ex1 : ExcC K E1 := ⟨eg1, et1, eb1, eh1, ec1, on, ot, em1⟩
  have Ex2 : ExcC K E2 := ⟨eg2, et2, eb2, eh2, ec2, on, ot, em2⟩
  have Ex3 : ExcC K E3 := ⟨eg3, et3, eb3, eh3, ec3, on, ot, em3⟩
  have Ex4 : ExcC K E4 := ⟨eg4, et4, eb4, eh4, ec4, on, ot, em4⟩
  have Ex5 : ExcC K E5 := ⟨eg5, et5, eb5, eh5, ec5, on, ot, em5⟩
  have Ex6 : ExcC K E6 := ⟨eg6, et6, eb6, eh6, ec6, on, ot, em6⟩
  have Y : ErrK K Cs := ⟨fun i hi => match i, hi with | 0, _ => Ex0 | 1, _ => Ex1 | 2, _ => Ex2 | 3, _ => Ex3 | 4, _ => Ex4 | 5, _ => Ex5 | 6, _ => Ex6, fun i j hi hj => match i, j, hi, hj with | 0, 0, _, _ => e0_0 | 0, 1, _, _ => e0_1 | 0, 2, _, _ => e0_2 | 0, 3, _, _ => e0_3 | 0, 4, _, _ => e0_4 | 0, 5, _, _ => e0_5 | 0, 6, _, _ => e0_6 | 1, 0, _, _ => e1_0 | 1, 1, _, _ => e1_1 | 1, 2, _, _ => e1_2 | 1, 3, _, _ => e1_3 | 1, 4, _, _ => e1_4 | 1, 5, _, _ => e1_5 | 1, 6, _, _ => e1_6 | 2, 0, _, _ => e2_0 | 2, 1, _, _ => e2_1 | 2, 2, _, _ => e2_2 | 2, 3, _, _ => e2_3 | 2, 4, _, _ => e2_4 | 2, 5, _, _ => e2_5 | 2, 6, _, _ => e2_6 | 3, 0, _, _ => e3_0 | 3, 1, _, _ => e3_1 | 3, 2, _, _ => e3_2 | 3, 3, _, _ => e3_3 | 3, 4, _, _ => e3_4 | 3, 5, _, _ => e3_5 | 3, 6, _, _ => e3_6 | 4, 0, _, _ => e4_0 | 4, 1, _, _ => e4_1 | 4, 2, _, _ => e4_2 | 4, 3, _, _ => e4_3 | 4, 4, _, _ => e4_4 | 4, 5, _, _ => e4_5 | 4, 6, _, _ => e4_6 | 5, 0, _, _ => e5_0 | 5, 1, _, _ => e5_1 | 5, 2, _, _ => e5_2 | 5, 3, _, _ => e5_3 | 5, 4, _, _ => e5_4 | 5, 5, _, _ => e5_5 | 5, 6, _, _ => e5_6 | 6, 0, _, _ => e6_0 | 6, 1, _, _ => e6_1 | 6, 2, _, _ => e6_2 | 6, 3, _, _ => e6_3 | 6, 4, _, _ => e6_4 | 6, 5, _, _ => e6_5 | 6, 6, _, _ => e6_6, fun i hi => match i, hi with | 0, _ => ev0 | 1, _ => ev1 | 2, _ => ev2 | 3, _ => ev3 | 4, _ => ev4 | 5, _ => ev5 | 6, _ => ev6, ef_1, ef_2, ef_3, ef_4, ef_5, ef_6⟩
  have YN : ErrN K mg Cs CN := ⟨fun i hi => match i, hi with | 0, _ => exm_of bN iN tN es0 | 1, _ => exm_of bN iN tN es1 | 2, _ => exm_of bN iN tN es2 | 3, _ => exm_of bN iN tN es3 | 4, _ => exm_of bN iN tN es4 | 5, _ => exm_of bN iN tN es5 | 6, _ => exm_of bN iN tN es6, PySem.W.mg_of X G aN⟩
  refine ⟨PySem.W.fnOf "law" "law" (defArgs slaw) (defBody slaw) (defScope slaw) .none kV18 dc18 pm18 an18 cd18 ct18, fun s v => .of_eq rfl, fun base _ _ => ?_⟩
  have SC6 : SupC K E6 := ⟨⟨⟨_, _, _, _, _, _, _, _, _, _, _, _, _, _, _, xl6, by rfl⟩, xs6, eb6, ey6, ekp6⟩, xu6, xm6, xv6, hsta⟩
  have SF6 : SFun l.prog K E6 "__init__" "NoRow.__init__" sNoRow___init__ ef6 _ := ⟨⟨_, _, _, _, _, _, _, _, _, _, _, _, _, _, _, _, _, _, _, rfl, xf6, xc6, xd6, xe6, xg6, xh6⟩, xk6⟩
  have FX6 : FnOk l.prog w K mg base CX0 1 ef6 _ ["self", "row"] (spErr E6 "row" okJ) := (sup_ok (k := 0) (N := ["self", "row", "__class__"]) SF6 SC6 (NdefX.nscope_by (by decide +kernel)) B.super ef_6 rfl (fun A outer s H E cc cda hr => (pe_joined (PJ.cons pe_str (PJ.cons (pe_fmt (pv 1)) (PJ.cons pe_str PJ.nil))))) (fun _ => rfl) rfl rfl htop rfl rfl rfl rfl (by decide) (by decide) (fun _ => rfl) (fun env h => int_of h rfl) (fun _ => rfl)).imp fun _ _ _ _ => sup_cIc (by decide +kernel) (by decide +kernel) "row"
  have RNoRow : ErrMk l.prog w K mg base 1 "NoRow" E6 "row" okJ := ⟨_, _, _, SC6.own, xi6, xt6, FX6, SF6.binds (fun _ _ _ _ _ _ _ us hl => match us, hl with | [_, _], _ => rfl), PySem.W.mg_of X G ea6⟩
  have T : PlanC K C0 := ⟨cls0, na0_0⟩
  have GI := ok_is_name (P := l.prog) (w := w) (K := K) (mg := mg) (base := base) F0 B gc0
  have c_is_name : Cl l.prog w K mg base 1 "is_name" (spIsName K) := ⟨_, _, _, GI, m0, k0, b0⟩
  have c_check_name : Cl l.prog w K mg base 2 "check_name" spCheck := ⟨_, _, _, ok_check_name F1 ⟨c_is_name⟩, m1, k1, b1⟩
  have p_init : Mr l.prog w K mg base 3 "Plan" C0 (spInit C0) := ⟨_, _, _, mk0_, ok_Plan___init__ F0_0 B ⟨c_check_name⟩ T, gC0, B0_0⟩
  have p_pairs : Mt l.prog w K mg base 1 C0 "pairs" (spPairsM C0) := ⟨_, _, _, cls0, me0_1, ok_Plan_pairs F0_1 B T, B0_1⟩
  have c_pair : Cl l.prog w K mg base 2 "_pair" spPair := ⟨_, _, _, ok__pair F4 B ⟨c_is_name⟩ gc1, m4, k4, b4⟩
  have c_plan_of : ClX l.prog w K mg base 5 "plan_of" (spPlanOf K C0 Cs) := ⟨_, _, _, ok_plan_of F3 B ⟨c_pair⟩ ⟨p_init⟩ ⟨RNoRow⟩, m3, k3, b3⟩
  have c_read : ClX l.prog w K mg base 6 "read" (spRead C0 Cs) := ⟨_, _, _, ok_read F2 B ⟨c_plan_of⟩ ⟨RNoRow⟩, m2, k2, b2⟩
  have c_law_state : Cl l.prog w K mg base 1 "_law_state" spState := ⟨_, _, _, ok__law_state F5, m5, k5, b5⟩
  have c_law_next : Cl l.prog w K mg base 1 "_law_next" spNext := ⟨_, _, _, ok__law_next F6, m6, k6, b6⟩
  have c1 : C1 l.prog w K mg base := ⟨c_law_next⟩
  have c_law_pool : Cl l.prog w K mg base 2 "_law_pool" spPool := ⟨_, _, _, ok__law_pool F7 B c1, m7, k7, b7⟩
  have c_law_turned : Cl l.prog w K mg base 2 "_law_turned" (spTurned K) := ⟨_, _, _, ok__law_turned F8 B c1, m8, k8, b8⟩
  have c_law_thing : Cl l.prog w K mg base 2 "_law_thing" spThing := ⟨_, _, _, ok__law_thing F9 B c1, m9, k9, b9⟩
  have c2 : C2 l.prog w K mg base := ⟨c1, c_law_turned, c_law_thing⟩
  have c_law_things : Cl l.prog w K mg base 3 "_law_things" (spThings K) := ⟨_, _, _, ok__law_things F10 B c2, m10, k10, b10⟩
  have c_law_pairs : Cl l.prog w K mg base 3 "_law_pairs" (spPairs K) := ⟨_, _, _, ok__law_pairs F11 B c2, m11, k11, b11⟩
  have c_law_by_olds : Cl l.prog w K mg base 1 "_law_by_olds" spByOlds := ⟨_, _, _, ok__law_by_olds F12 B, m12, k12, b12⟩
  have c_law_word_of : Cl l.prog w K mg base 1 "_law_word_of" (spWordOf K Cs) := ⟨_, _, _, ok__law_word_of F13 B Y GW, m13, k13, b13⟩
  have c_law_is_name : Cl l.prog w K mg base 1 "_law_is_name" spLName := ⟨_, _, _, ok__law_is_name F14 B, m14, k14, b14⟩
  have c_law_due : Cl l.prog w K mg base 2 "_law_due" (spDue16 K) := ⟨_, _, _, ok__law_due F15 B ⟨c_law_is_name, c_law_by_olds⟩, m15, k15, b15⟩
  have c_law_told : Cl l.prog w K mg base 7 "_law_told" (spDue16 K) := ⟨_, _, _, ok__law_told F16 B ⟨c_read, c_law_word_of⟩ ⟨p_pairs⟩ YN, m16, k16, b16⟩
  have c_law_spoilt : Cl l.prog w K mg base 2 "_law_spoilt" (spSpoilt K) := ⟨_, _, _, ok__law_spoilt F17 B c1, m17, k17, b17⟩
  exact ok_law F18 B ⟨c_law_state, c_law_next, c_law_pool, c_law_things, c_law_pairs, c_law_by_olds, c_law_spoilt, c_law_told, c_law_due⟩
end Nn
open PySem PySem.W PyProof.Rows
set_option maxRecDepth 100000 in
set_option maxHeartbeats 0 in
theorem PySem.Challenge.cw_newnames_k16_texts_refused_holds : PySem.Challenge.rw_newnames_k16_texts_refused.Holds := by
  w_on; o_law; k_head; (case hw => w_witness2)
  k_fill
  refine L2.walk_of (l := PySem.Challenge.rw_newnames_k16_texts_refused) (n := 63) (k := 8) (x := "_law_script") (CX := fun _ => L2.CX0) (sp := fun w => Nn.spLaw _) rfl (by decide) rfl ⟨rfl, by decide, by decide⟩ (fun w h Y => PySem.W.kIn_of Y) ?F (fun _ _ a ns hl _ hS => ⟨a, ns, rfl, hS, hl, fun _ => rfl⟩) (fun _ _ _ _ _ h => h)
  case F =>
    intro w mg fa h KX G hmg
    refine' Nn.all_mk KX G hmg ?a0 ?l0 ?c0 ?k0 ?a1 ?l1 ?c1 ?k1 ?a2 ?l2 ?c2 ?k2 ?a3 ?l3 ?c3 ?k3 ?a4 ?l4 ?c4 ?k4 ?a5 ?l5 ?c5 ?k5 ?a6 ?l6 ?c6 ?k6 ?a7 ?l7 ?c7 ?k7 ?a8 ?l8 ?c8 ?k8 ?a9 ?l9 ?c9 ?k9 ?a10 ?l10 ?c10 ?k10 ?a11 ?l11 ?c11 ?k11 ?a12 ?l12 ?c12 ?k12 ?a13 ?l13 ?c13 ?k13 ?a14 ?l14 ?c14 ?k14 ?a15 ?l15 ?c15 ?k15 ?a16 ?l16 ?c16 ?k16 ?a17 ?l17 ?c17 ?k17 ?a18 ?l18 ?c18 ?k18 ?ac0 ?pg0 ?hd0 ?po0 ?sa0 ?kk0 ?mk0 ?na0_0 ?ma0_0 ?mi0_0 ?ml0_0 ?mc0_0 ?mp0_0 ?ma0_1 ?mi0_1 ?ml0_1 ?mc0_1 ?mp0_1 ?kc0 ?kc1 ?z0 ?z1 ?z2 ?z3 ?z4 ?z5 ?z6 ?z7 ?z8 ?z9 ?z10 ?z11 ?z12 ?z13 ?z14 ?z15 ?z16 ?z17 ?aN ?bN ?iN ?tN ?on ?ot ?ea0 ?ea1 ?ea2 ?ea3 ?ea4 ?ea5 ?ea6 ?eg0 ?et0 ?eb0 ?eh0 ?ec0 ?em0 ?es0 ?ev0 ?ey0 ?ekp0 ?e0_0 ?e0_1 ?e0_2 ?e0_3 ?e0_4 ?e0_5 ?e0_6 ?eg1 ?et1 ?eb1 ?eh1 ?ec1 ?em1 ?es1 ?ev1 ?ey1 ?ekp1 ?e1_0 ?e1_1 ?e1_2 ?e1_3 ?e1_4 ?e1_5 ?e1_6 ?ef_1 ?eg2 ?et2 ?eb2 ?eh2 ?ec2 ?em2 ?es2 ?ev2 ?ey2 ?ekp2 ?e2_0 ?e2_1 ?e2_2 ?e2_3 ?e2_4 ?e2_5 ?e2_6 ?ef_2 ?eg3 ?et3 ?eb3 ?eh3 ?ec3 ?em3 ?es3 ?ev3 ?ey3 ?ekp3 ?e3_0 ?e3_1 ?e3_2 ?e3_3 ?e3_4 ?e3_5 ?e3_6 ?ef_3 ?eg4 ?et4 ?eb4 ?eh4 ?ec4 ?em4 ?es4 ?ev4 ?ey4 ?ekp4 ?e4_0 ?e4_1 ?e4_2 ?e4_3 ?e4_4 ?e4_5 ?e4_6 ?ef_4 ?eg5 ?et5 ?eb5 ?eh5 ?ec5 ?em5 ?es5 ?ev5 ?ey5 ?ekp5 ?e5_0 ?e5_1 ?e5_2 ?e5_3 ?e5_4 ?e5_5 ?e5_6 ?ef_5 ?eg6 ?et6 ?eb6 ?eh6 ?ec6 ?em6 ?es6 ?ev6 ?ey6 ?ekp6 ?e6_0 ?e6_1 ?e6_2 ?e6_3 ?e6_4 ?e6_5 ?e6_6 ?ef_6 ?htop ?hsta ?xl6 ?xs6 ?xi6 ?xt6 ?xu6 ?xm6 ?xv6 ?xf6 ?xc6 ?xk6 ?xd6 ?xe6 ?xg6 ?xh6
    (case a0 => k_is)
    (case l0 => k_is)
    (case c0 => k_is)
    (case k0 => k_is)
    (case a1 => k_is)
    (case l1 => k_is)
    (case c1 => k_is)
    (case k1 => k_is)
    (case a2 => k_is)
    (case l2 => k_is)
    (case c2 => k_is)
    (case k2 => k_is)
    (case a3 => k_is)
    (case l3 => k_is)
    (case c3 => k_is)
    (case k3 => k_is)
    (case a4 => k_is)
    (case l4 => k_is)
    (case c4 => k_is)
    (case k4 => k_is)
    (case a5 => k_is)
    (case l5 => k_is)
    (case c5 => k_is)
    (case k5 => k_is)
    (case a6 => k_is)
    (case l6 => k_is)
    (case c6 => k_is)
    (case k6 => k_is)
    (case a7 => k_is)
    (case l7 => k_is)
    (case c7 => k_is)
    (case k7 => k_is)
    (case a8 => k_is)
    (case l8 => k_is)
    (case c8 => k_is)
    (case k8 => k_is)
    (case a9 => k_is)
    (case l9 => k_is)
    (case c9 => k_is)
    (case k9 => k_is)
    (case a10 => k_is)
    (case l10 => k_is)
    (case c10 => k_is)
    (case k10 => k_is)
    (case a11 => k_is)
    (case l11 => k_is)
    (case c11 => k_is)
    (case k11 => k_is)
    (case a12 => k_is)
    (case l12 => k_is)
    (case c12 => k_is)
    (case k12 => k_is)
    (case a13 => k_is)
    (case l13 => k_is)
    (case c13 => k_is)
    (case k13 => k_is)
    (case a14 => k_is)
    (case l14 => k_is)
    (case c14 => k_is)
    (case k14 => k_is)
    (case a15 => k_is)
    (case l15 => k_is)
    (case c15 => k_is)
    (case k15 => k_is)
    (case a16 => k_is)
    (case l16 => k_is)
    (case c16 => k_is)
    (case k16 => k_is)
    (case a17 => k_is)
    (case l17 => k_is)
    (case c17 => k_is)
    (case k17 => k_is)
    (case a18 => k_is)
    (case l18 => k_is)
    (case c18 => k_is)
    (case k18 => k_is)
    (case ac0 => k_is)
    (case pg0 => k_is)
    (case hd0 => k_is)
    (case po0 => k_is)
    (case sa0 => k_is)
    (case kk0 => k_is)
    (case mk0 => k_is)
    (case na0_0 => k_is)
    (case ma0_0 => k_is)
    (case mi0_0 => k_is)
    (case ml0_0 => k_is)
    (case mc0_0 => k_is)
    (case mp0_0 => k_is)
    (case ma0_1 => k_is)
    (case mi0_1 => k_is)
    (case ml0_1 => k_is)
    (case mc0_1 => k_is)
    (case mp0_1 => k_is)
    (case kc0 => k_is)
    (case kc1 => k_is)
    (case z0 => k_is)
    (case z1 => k_is)
    (case z2 => k_is)
    (case z3 => k_is)
    (case z4 => k_is)
    (case z5 => k_is)
    (case z6 => k_is)
    (case z7 => k_is)
    (case z8 => k_is)
    (case z9 => k_is)
    (case z10 => k_is)
    (case z11 => k_is)
    (case z12 => k_is)
    (case z13 => k_is)
    (case z14 => k_is)
    (case z15 => k_is)
    (case z16 => k_is)
    (case z17 => k_is)
    (case aN => k_is)
    (case bN => k_is)
    (case iN => k_is)
    (case tN => k_is)
    (case on => k_is)
    (case ot => k_is)
    (case ea0 => k_is)
    (case ea1 => k_is)
    (case ea2 => k_is)
    (case ea3 => k_is)
    (case ea4 => k_is)
    (case ea5 => k_is)
    (case ea6 => k_is)
    (case eg0 => k_is)
    (case et0 => k_is)
    (case eb0 => k_is)
    (case eh0 => k_is)
    (case ec0 => k_is)
    (case em0 => k_is)
    (case es0 => k_is)
    (case ev0 => kit_is)
    (case ey0 => k_is)
    (case ekp0 => k_is)
    (case e0_0 => kit_is)
    (case e0_1 => kit_is)
    (case e0_2 => kit_is)
    (case e0_3 => kit_is)
    (case e0_4 => kit_is)
    (case e0_5 => kit_is)
    (case e0_6 => kit_is)
    (case eg1 => k_is)
    (case et1 => k_is)
    (case eb1 => k_is)
    (case eh1 => k_is)
    (case ec1 => k_is)
    (case em1 => k_is)
    (case es1 => k_is)
    (case ev1 => kit_is)
    (case ey1 => k_is)
    (case ekp1 => k_is)
    (case e1_0 => kit_is)
    (case e1_1 => kit_is)
    (case e1_2 => kit_is)
    (case e1_3 => kit_is)
    (case e1_4 => kit_is)
    (case e1_5 => kit_is)
    (case e1_6 => kit_is)
    (case ef_1 => k_is)
    (case eg2 => k_is)
    (case et2 => k_is)
    (case eb2 => k_is)
    (case eh2 => k_is)
    (case ec2 => k_is)
    (case em2 => k_is)
    (case es2 => k_is)
    (case ev2 => kit_is)
    (case ey2 => k_is)
    (case ekp2 => k_is)
    (case e2_0 => kit_is)
    (case e2_1 => kit_is)
    (case e2_2 => kit_is)
    (case e2_3 => kit_is)
    (case e2_4 => kit_is)
    (case e2_5 => kit_is)
    (case e2_6 => kit_is)
    (case ef_2 => k_is)
    (case eg3 => k_is)
    (case et3 => k_is)
    (case eb3 => k_is)
    (case eh3 => k_is)
    (case ec3 => k_is)
    (case em3 => k_is)
    (case es3 => k_is)
    (case ev3 => kit_is)
    (case ey3 => k_is)
    (case ekp3 => k_is)
    (case e3_0 => kit_is)
    (case e3_1 => kit_is)
    (case e3_2 => kit_is)
    (case e3_3 => kit_is)
    (case e3_4 => kit_is)
    (case e3_5 => kit_is)
    (case e3_6 => kit_is)
    (case ef_3 => k_is)
    (case eg4 => k_is)
    (case et4 => k_is)
    (case eb4 => k_is)
    (case eh4 => k_is)
    (case ec4 => k_is)
    (case em4 => k_is)
    (case es4 => k_is)
    (case ev4 => kit_is)
    (case ey4 => k_is)
    (case ekp4 => k_is)
    (case e4_0 => kit_is)
    (case e4_1 => kit_is)
    (case e4_2 => kit_is)
    (case e4_3 => kit_is)
    (case e4_4 => kit_is)
    (case e4_5 => kit_is)
    (case e4_6 => kit_is)
    (case ef_4 => k_is)
    (case eg5 => k_is)
    (case et5 => k_is)
    (case eb5 => k_is)
    (case eh5 => k_is)
    (case ec5 => k_is)
    (case em5 => k_is)
    (case es5 => k_is)
    (case ev5 => kit_is)
    (case ey5 => k_is)
    (case ekp5 => k_is)
    (case e5_0 => kit_is)
    (case e5_1 => kit_is)
    (case e5_2 => kit_is)
    (case e5_3 => kit_is)
    (case e5_4 => kit_is)
    (case e5_5 => kit_is)
    (case e5_6 => kit_is)
    (case ef_5 => k_is)
    (case eg6 => k_is)
    (case et6 => k_is)
    (case eb6 => k_is)
    (case eh6 => k_is)
    (case ec6 => k_is)
    (case em6 => k_is)
    (case es6 => k_is)
    (case ev6 => kit_is)
    (case ey6 => k_is)
    (case ekp6 => k_is)
    (case e6_0 => kit_is)
    (case e6_1 => kit_is)
    (case e6_2 => kit_is)
    (case e6_3 => kit_is)
    (case e6_4 => kit_is)
    (case e6_5 => kit_is)
    (case e6_6 => kit_is)
    (case ef_6 => k_is)
    (case htop => first | rfl | decide +kernel)
    (case hsta => k_is)
    (case xl6 => k_is)
    (case xs6 => k_is)
    (case xi6 => k_is)
    (case xt6 => k_is)
    (case xu6 => ks_is)
    (case xm6 => k_is)
    (case xv6 => k_is)
    (case xf6 => k_is)
    (case xc6 => k_is)
    (case xk6 => k_is)
    (case xd6 => k_is)
    (case xe6 => rfl)
    (case xg6 => first | rfl | decide +kernel)
    (case xh6 => k_is)
