import PyProof.Rows.All
import HandS.ForMost
import HandS.IsInst
import HandS.Deep
import HandS.Walk
import HandS.Wide
import HandS.TupAny
import HandS.Zip
import HandS.Style
import HandS.Codes
import PySem.Challenge.RW_hoarseheath_k01_plans_or_not
set_option Elab.async false
set_option linter.all false
set_option maxRecDepth 100000
/-! A data layer over HandS: values as data (PyData) or as cells that may change, a heap split into both. -/
namespace DL
open PySem PySem.Spec PyProof.Rows L2

/-! ### defs that are run where no repr is under way -/
section
variable {P : Program} {w : World} {K : PySem.W.Frag} {mg : Str → Option Value} {base : Heap}
/-- a def at f keeps the promise sp, wherever no guard is on the stack; nothing is raised -/
structure FnG (P : Program) (w : World) (K : PySem.W.Frag) (mg : Str → Option Value) (base : Heap) (k : Nat) (f : Addr) (fd : FuncData) (ps : List Str) (sp : List V → Hp → VK → Prop) : Prop where
  len : ∀ vs H Q, sp vs H Q → vs.length = ps.length
  go : ∀ (A : Around) (out : List Env) (s : Shared) (H : Hp) (args : Args) (us : List Value) (vs : List V) (Q : VK), Room k A → A.guards = some [] → Env0 P w K mg base A out s H →
    BindsTo s fd args (ps.zip us) → Vals vs us → sp vs H Q → codeAny (model P w) A (.call (.ref f) args) (CR CX0 out P w H s Q E0) s

theorem FnG.mono {j k : Nat} {f : Addr} {fd : FuncData} {ps : List Str} {sp : List V → Hp → VK → Prop} (F : FnG P w K mg base j f fd ps sp) (h : j ≤ k) : FnG P w K mg base k f fd ps sp :=
  ⟨F.len, fun A out s H args us vs Q hr => F.go A out s H args us vs Q (hr.mono h)⟩

/-- a def by its body -/
theorem fng_of {k : Nat} {f : Addr} {nm qual : Str} {st : Stmt} {fd : FuncData} {N ps : List Str} {sp : List V → Hp → VK → Prop} (F : Fun K nm qual st f fd) (S : FnScope N ps (defScope st)) (len : ∀ vs H Q, sp vs H Q → vs.length = ps.length)
    (body : ∀ (cdv : Value) (A : Around) (out : List Env) (s : Shared) (H : Hp) (vs : List V) (Q : VK), Room k (A.deeper (envOfC qual (defScope st) s.heap.objs.size f cdv)) → A.guards = some [] → sp vs H Q →
      ∃ t, PSs (cxOf CX0 P w K mg base N qual (defScope st) f cdv A out s H E0).nox (defBody st) t ∧ t { nx := fun _ H' => Q .non H', rt := Q } (start N vs) H) :
    FnG P w K mg base (k + 1) f fd ps sp := by
  refine ⟨len, fun A out s H args us vs Q hr hg e0 hb r hsp => ?_⟩
  obtain ⟨oc, od, kV, doc, pm, an, cdv, ct, osl, rfl, lk, hcd⟩ := F.ex
  have KX : K.In s.heap := e0.mod.kin.keeps fun b o e => (e0.bs b o e).1
  have lim : s.heap.NoLimit := e0.mod.nolimit.keeps fun b o e => (e0.bs b o e).1
  refine codeAny_call_function hr.depth (KX _ _ lk) rfl S.co S.gen rfl (PySem.W.codeRec_of KX hcd) (hb _ _ _ _ ?_)
  refine wpAny_newFunctionEnv_cells S.kind (fun y hy => ?_) fun env he s1 x => ?_
  · rcases S.par y.1 (List.of_mem_zip (a := y.1) (b := y.2) hy).1 with q | q
    · exact .inl q
    · exact .inr ⟨q, PySem.W.cellsFrom_some _ _ _ (.inl q)⟩
  · subst he
    refine ⟨lim.keeps x.toInCall.keep, codeAny_func ?_⟩
    obtain ⟨t, ht, hq⟩ := body cdv A out s H vs Q (hr.deeper _) hg hsp
    have I := inv_start (CX := CX0) (E := E0) S hr.hd e0 (len _ _ _ hsp) r x
    refine wpAny_mono (ht.nox.run [] s1 (start N vs) H _ I hq) (fun fl s' hs => ?_) fun e s' hs => hs
    cases fl with
    | ret u =>
      obtain ⟨v, σ', H', J, rv, q⟩ := hs
      exact ⟨v, H', J.os, J.bare, J.base, J.hok, rv, q⟩
    | next =>
      obtain ⟨σ', H', J, q⟩ := hs
      exact ⟨V.non, H', J.os, J.bare, J.base, J.hok, rfl, q⟩
    | brk => exact (let ⟨_, _, _, q⟩ := hs; q.elim)
    | cont => exact (let ⟨_, _, _, q⟩ := hs; q.elim)
end
section
variable {X : Cx} {k : Nat} {f : Addr} {fd : FuncData} {ps ks : List Str} {sp : List V → Hp → VK → Prop} {x : Str} {p pos : Pos} {e : Expr} {es : List Expr} {kws : List Keyword} {t tk : TA}
theorem runG {pins : List (Addr × Obj)} {σ : L2.St} {H : Hp} {s : Shared} {Q : VK} {args : Args} {us : List Value} {vs : List V} (F : FnG X.prog X.w X.K X.mg X.base k f fd ps sp) (hr : Room k X.A) (hg : X.A.guards = some []) (hb : BindsTo s fd args (ps.zip us))
    (I : Inv X pins σ H s) (r : Vals vs us) (h : sp vs H Q) : codeAny (model X.prog X.w) X.A (.call (.ref f) args) (fun c s' => match c with | .ok (.ret u) => EP X pins σ Q u s' | _ => False) s := by
  refine codeAny_mono (F.go X.A X.stack s H args us vs Q hr hg I.env0 hb r h) fun c s' hq => ?_
  cases c with
  | error e => exact hq
  | ok fl =>
    cases fl with
    | ret u => exact I.after hq
    | next => exact hq
    | brk => exact hq
    | cont => exact hq
/-- f(e, ..) -/
theorem pe_callG (F : FnG X.prog X.w X.K X.mg X.base k f fd ps sp) (hr : Room k X.A) (hg : X.A.guards = some []) (gl : Gl X x) (hm : X.mg x = some (.ref f)) (hk : PySem.W.keepIn X.K (.ref f) = true) (hb : Binds X.K fd ps [])
    (ha : PA X (e :: es) t) (hdb : (x == ("__debug__" : Str)) = false := by decide) (he : starEach (e :: es) X.env = (false, eval e X.env) :: starEach es X.env := by rfl) (hpl : (backTo pos (starEach es X.env)).any (·.1) = false := by rfl) :
    PE X (.Call (.Name x p) (e :: es) [] pos) (fun σ H Q => t σ H fun vs H1 => sp vs H1 Q) := by
  refine ⟨fun pins s σ H Q I h => wpAny_Call_Name_kw (ld_glob I gl hm ?_ hdb)⟩
  refine PySem.W.callWith_K (h₀ := X.base) I.ok.mod.kin hk (thn (ha.run pos pins s σ H _ I h) fun us s1 ⟨vs, H1, I1, r, q⟩ => ⟨I1.kIn, ?_⟩) he hpl
  have hl : (us ++ []).length = ps.length := by rw [List.append_nil, ← r.length]; exact F.len _ _ _ q
  have hb' := hb s1 us I1.kIn hl
  rw [List.append_nil] at hb'
  refine wpAny_call (codeAny_mono (runG F hr hg hb' I1 r q) fun c s' hq => ?_)
  cases c with
  | error e => exact hq.elim
  | ok fl => cases fl <;> first | exact hq | exact hq.elim
/-- f(k = v, ..), by names alone -/
theorem pe_callGK (F : FnG X.prog X.w X.K X.mg X.base k f fd ps sp) (hr : Room k X.A) (hg : X.A.guards = some []) (gl : Gl X x) (hm : X.mg x = some (.ref f)) (hk : PySem.W.keepIn X.K (.ref f) = true) {g : List V → List V} {gu : List Value → List Value}
    (hb : ∀ (s : Shared) (ws : List Value), (gu ws).length = ps.length → BindsTo s fd ⟨[], ks.zip ws⟩ (ps.zip (gu ws))) (hgu : ∀ {zs : List V} {ws : List Value}, Vals zs ws → Vals (g zs) (gu ws))
    (hkw : PK X kws tk) (hall : (backToKw pos (keywordEach kws X.env)).all (·.1.isSome) = true := by rfl) (hks : (backToKw pos (keywordEach kws X.env)).filterMap (·.1) = ks := by rfl)
    (hdb : (x == ("__debug__" : Str)) = false := by decide) (hpl : ((backTo pos (starEach [] X.env)).any (·.1) || (backToKw pos (keywordEach kws X.env)).any (·.1.isNone)) = false := by rfl) :
    PE X (.Call (.Name x p) [] kws pos) (fun σ H Q => tk σ H fun vs H1 => sp (g vs) H1 Q) := by
  refine ⟨fun pins s σ H Q I h => wpAny_Call_Name_kw (ld_glob I gl hm ?_ hdb)⟩
  refine PySem.W.callWith_KW0 (h₀ := X.base) I.ok.mod.kin hk hall ?_ hpl
  refine thn (hkw.run pos pins s σ H _ I h) fun ws s1 ⟨zs, H1, I1, r, q⟩ => ⟨I1.kIn, ?_⟩
  rw [hks]
  have hl : (gu ws).length = ps.length := by rw [← (hgu r).length]; exact F.len _ _ _ q
  refine wpAny_call (codeAny_mono (runG F hr hg (hb s1 ws hl) I1 (hgu r) q) fun c s' hq => ?_)
  cases c with
  | error e => exact hq.elim
  | ok fl => cases fl <;> first | exact hq | exact hq.elim
end
end DL

namespace DL
open PySem PySem.Spec PyProof.Rows L2

/-! ### values: data, or a cell that may change -/
inductive AV where
  | dat (d : PyData)
  | mut (a : Addr)
  | cls (n : String)
  | raw (ns : List Int)
inductive MO where
  | lst (xs : List AV)
  | dK (kvs : List (Key × AV))
abbrev Mu := Addr → Option MO
def mset (μ : Mu) (a : Addr) (o : Option MO) : Mu := fun b => if b = a then o else μ b
theorem mset_same {μ : Mu} {a : Addr} {o : Option MO} : mset μ a o a = o := if_pos rfl
theorem mset_ne {μ : Mu} {a b : Addr} {o : Option MO} (h : b ≠ a) : mset μ a o b = μ b := if_neg h
/-- the heap without the cells that may change -/
def hid (H : Hp) (μ : Mu) : Hp := fun b => if (μ b).isSome then none else H b
theorem hid_some {H : Hp} {μ : Mu} {b : Addr} {o : HO} (h : hid H μ b = some o) : μ b = none ∧ H b = some o := by
  unfold hid at h
  cases e : μ b with
  | none => rw [e] at h; exact ⟨rfl, by simpa using h⟩
  | some m => rw [e] at h; simp at h
theorem hid_none {H : Hp} {μ : Mu} {b : Addr} (e : μ b = none) : hid H μ b = H b := by
  unfold hid; rw [e]; rfl
theorem hid_same (H : Hp) (μ : Mu) : Same (hid H μ) H := fun _ _ h => (hid_some h).2

/-- data are tracked or known to the object, never of the written part -/
abbrev K0 : PySem.W.Frag := []
theorem k0_lst {H : Hp} {a : Addr} {xs : List V} (h : SqL K0 H a xs) : Rd H a (.lst xs) := by
  rcases h with h | ⟨o, its, n, e, _⟩
  · exact h
  · cases e
theorem k0_tup {H : Hp} {a : Addr} {xs : List V} (h : SqT K0 H a xs) : Rd H a (.tup xs) := by
  rcases h with h | ⟨o, its, n, e, _⟩
  · exact h
  · cases e
theorem rd_mono {H H' : Hp} {a : Addr} {u : HO} (e : Same H H') (h : Rd H a u) : Rd H' a u := by
  rcases h with h | ⟨o, h⟩
  · exact .inl (e _ _ h)
  · exact .inr ⟨o, e _ _ h⟩
theorem sqT_mono {K : PySem.W.Frag} {H H' : Hp} {a : Addr} {xs : List V} (e : Same H H') (h : SqT K H a xs) : SqT K H' a xs := by
  rcases h with (h | ⟨o, h⟩) | h
  · exact .inl (.inl (e _ _ h))
  · exact .inl (.inr ⟨o, e _ _ h⟩)
  · exact .inr h
mutual
theorem dp_mono {K : PySem.W.Frag} {H H' : Hp} (e : Same H H') : ∀ {v : V} {d : PyData}, Dp K H v d → Dp K H' v d
  | _, _, .non => .non
  | _, _, .bl b => .bl b
  | _, _, .int i => .int i
  | _, _, .str x => .str x
  | _, _, .lst h a => .lst (e.seq h) (dpAll_mono e a)
  | _, _, .tup h a => .tup (sqT_mono e h) (dpAll_mono e a)
theorem dpAll_mono {K : PySem.W.Frag} {H H' : Hp} (e : Same H H') : ∀ {vs : List V} {ds : List PyData}, DpAll K H vs ds → DpAll K H' vs ds
  | _, _, .nil => .nil
  | _, _, .cons a b => .cons (dp_mono e a) (dpAll_mono e b)
end
theorem dpAll_len {K : PySem.W.Frag} {H : Hp} : ∀ {vs : List V} {ds : List PyData}, DpAll K H vs ds → vs.length = ds.length
  | _, _, .nil => rfl
  | _, _, .cons _ b => by rw [List.length_cons, List.length_cons, dpAll_len b]
theorem dpAll_get {K : PySem.W.Frag} {H : Hp} : ∀ {vs : List V} {ds : List PyData} {i : Nat} {d : PyData}, DpAll K H vs ds → ds[i]? = some d → ∃ v, vs[i]? = some v ∧ Dp K H v d
  | _, _, _, _, .nil, h => by simp at h
  | _, _, 0, _, .cons a _, h => by simp at h; subst h; exact ⟨_, rfl, a⟩
  | _, _, i + 1, _, .cons _ b, h => by
    obtain ⟨v, h1, h2⟩ := dpAll_get (i := i) b (by simpa using h)
    exact ⟨v, by simpa using h1, h2⟩
theorem dpAll_getV {K : PySem.W.Frag} {H : Hp} : ∀ {vs : List V} {ds : List PyData} {i : Nat} {v : V}, DpAll K H vs ds → vs[i]? = some v → ∃ d, ds[i]? = some d ∧ Dp K H v d
  | _, _, _, _, .nil, h => by simp at h
  | _, _, 0, _, .cons a _, h => by simp at h; subst h; exact ⟨_, rfl, a⟩
  | _, _, i + 1, _, .cons _ b, h => by
    obtain ⟨v, h1, h2⟩ := dpAll_getV (i := i) b (by simpa using h)
    exact ⟨v, by simpa using h1, h2⟩
theorem dpAll_append {K : PySem.W.Frag} {H : Hp} : ∀ {vs ws : List V} {ds es : List PyData}, DpAll K H vs ds → DpAll K H ws es → DpAll K H (vs ++ ws) (ds ++ es)
  | _, _, _, _, .nil, h => h
  | _, _, _, _, .cons a b, h => .cons a (dpAll_append b h)
theorem dpAll_take {K : PySem.W.Frag} {H : Hp} : ∀ {vs : List V} {ds : List PyData} (n : Nat), DpAll K H vs ds → DpAll K H (vs.take n) (ds.take n)
  | _, _, 0, _ => .nil
  | _, _, n + 1, .nil => .nil
  | _, _, n + 1, .cons a b => .cons a (dpAll_take n b)
theorem dpAll_drop {K : PySem.W.Frag} {H : Hp} : ∀ {vs : List V} {ds : List PyData} (n : Nat), DpAll K H vs ds → DpAll K H (vs.drop n) (ds.drop n)
  | _, _, 0, h => h
  | _, _, n + 1, .nil => .nil
  | _, _, n + 1, .cons a b => dpAll_drop n b

def RelA (K : PySem.W.Frag) (H : Hp) (v : V) : AV → Prop
  | .dat d => Dp K0 H v d
  | .mut a => v = .ref a
  | .cls n => v = .ty n
  | .raw ns => ∃ a, v = .ref a ∧ SqL K H a (ns.map V.int)
theorem relA_mono {K : PySem.W.Frag} {H H' : Hp} (e : Same H H') {v : V} : ∀ {a : AV}, RelA K H v a → RelA K H' v a
  | .dat _, h => dp_mono e h
  | .mut _, h => h
  | .cls _, h => h
  | .raw _, ⟨a, e1, e2⟩ => ⟨a, e1, e.seq e2⟩
theorem rB {K : PySem.W.Frag} {H : Hp} (b : Bool) : RelA K H (.bl b) (.dat (.bool b)) := Dp.bl b
theorem rI {K : PySem.W.Frag} {H : Hp} (b : Int) : RelA K H (.int b) (.dat (.int b)) := Dp.int b
theorem rS {K : PySem.W.Frag} {H : Hp} (b : Str) : RelA K H (.str b) (.dat (.str b)) := Dp.str b
theorem rN {K : PySem.W.Frag} {H : Hp} : RelA K H .non (.dat .none) := Dp.non
abbrev RelAs (K : PySem.W.Frag) (H : Hp) : List V → List AV → Prop := Paired (RelA K H)
theorem paired_mono {α β : Type} {R R' : α → β → Prop} (h : ∀ a b, R a b → R' a b) : ∀ {xs : List α} {ys : List β}, Paired R xs ys → Paired R' xs ys
  | _, _, .nil => .nil
  | _, _, .cons a b => .cons (h _ _ a) (paired_mono h b)
theorem relAs_mono {K : PySem.W.Frag} {H H' : Hp} (e : Same H H') {vs : List V} {as : List AV} (h : RelAs K H vs as) : RelAs K H' vs as := paired_mono (fun _ _ => relA_mono e) h
theorem paired_get {α β : Type} {R : α → β → Prop} : ∀ {xs : List α} {ys : List β} {i : Nat} {y : β}, Paired R xs ys → ys[i]? = some y → ∃ x, xs[i]? = some x ∧ R x y
  | _, _, _, _, .nil, h => by simp at h
  | _, _, 0, _, .cons a _, h => by simp at h; subst h; exact ⟨_, rfl, a⟩
  | _, _, i + 1, _, .cons _ b, h => by
    obtain ⟨v, h1, h2⟩ := paired_get (i := i) b (by simpa using h)
    exact ⟨v, by simpa using h1, h2⟩
theorem paired_append {α β : Type} {R : α → β → Prop} : ∀ {xs xs' : List α} {ys ys' : List β}, Paired R xs ys → Paired R xs' ys' → Paired R (xs ++ xs') (ys ++ ys')
  | _, _, _, _, .nil, h => h
  | _, _, _, _, .cons a b, h => .cons a (paired_append b h)
theorem paired_set {α β : Type} {R : α → β → Prop} {x : α} {y : β} (r : R x y) : ∀ {xs : List α} {ys : List β} (i : Nat), Paired R xs ys → Paired R (xs.set i x) (ys.set i y)
  | _, _, _, .nil => .nil
  | _, _, 0, .cons _ b => .cons r b
  | _, _, i + 1, .cons a b => .cons a (paired_set r i b)
theorem paired_erase {α β : Type} {R : α → β → Prop} : ∀ {xs : List α} {ys : List β} (i : Nat), Paired R xs ys → Paired R (xs.eraseIdx i) (ys.eraseIdx i)
  | _, _, _, .nil => .nil
  | _, _, 0, .cons _ b => b
  | _, _, i + 1, .cons a b => .cons a (paired_erase i b)
mutual
theorem dp_up {K : PySem.W.Frag} {H : Hp} : ∀ {v : V} {d : PyData}, Dp K0 H v d → Dp K H v d
  | _, _, .non => .non
  | _, _, .bl b => .bl b
  | _, _, .int i => .int i
  | _, _, .str x => .str x
  | _, _, .lst h a => .lst (.inl (k0_lst h)) (dpAll_up a)
  | _, _, .tup h a => .tup (.inl (k0_tup h)) (dpAll_up a)
theorem dpAll_up {K : PySem.W.Frag} {H : Hp} : ∀ {vs : List V} {ds : List PyData}, DpAll K0 H vs ds → DpAll K H vs ds
  | _, _, .nil => .nil
  | _, _, .cons a b => .cons (dp_up a) (dpAll_up b)
end
theorem relAs_dat {K : PySem.W.Frag} {H : Hp} : ∀ {vs : List V} {ds : List PyData}, DpAll K0 H vs ds ↔ RelAs K H vs (ds.map AV.dat)
  | vs, [] => ⟨fun h => by cases h; exact .nil, fun h => by cases h; exact .nil⟩
  | vs, d :: ds => ⟨fun h => by
      cases h with
      | cons a b => exact .cons a (relAs_dat.mp b), fun h => by
      cases h with
      | cons a b => exact .cons a (relAs_dat.mpr b)⟩

/-- the cells hold what μ says -/
def HM (K : PySem.W.Frag) (H : Hp) (μ : Mu) : Prop := ∀ a m, μ a = some m → match m with
  | .lst as => ∃ xs, H a = some (.lst xs) ∧ RelAs K (hid H μ) xs as
  | .dK kvs => ∃ vs, H a = some (.dK vs) ∧ Paired (fun (p : Key × V) (q : Key × AV) => p.1 = q.1 ∧ RelA K (hid H μ) p.2 q.2) vs kvs
theorem HM.ne {K : PySem.W.Frag} {H : Hp} {μ : Mu} (h : HM K H μ) {p : Addr} (n : H p = none) : μ p = none := by
  cases e : μ p with
  | none => rfl
  | some m =>
    have q := h p m e
    cases m with
    | lst as => obtain ⟨xs, e1, _⟩ := q; rw [n] at e1; cases e1
    | dK kvs => obtain ⟨xs, e1, _⟩ := q; rw [n] at e1; cases e1
theorem hid_new {K : PySem.W.Frag} {H : Hp} {μ : Mu} (h : HM K H μ) {p : Addr} (n : H p = none) (o : HO) : Same (hid H μ) (hid (upd H p o) μ) := fun b u e => by
  obtain ⟨e1, e2⟩ := hid_some e
  rw [hid_none e1, upd_ne (ne_of_none e2 n), e2]
theorem HM.mono {K : PySem.W.Frag} {H H' : Hp} {μ : Mu} (h : HM K H μ) (e : Same (hid H μ) (hid H' μ)) (k : ∀ a, (μ a).isSome → H' a = H a) : HM K H' μ := fun a m ha => by
  have q := h a m ha
  have ka := k a (by rw [ha]; rfl)
  cases m with
  | lst as => obtain ⟨xs, e1, r⟩ := q; exact ⟨xs, ka.trans e1, relAs_mono e r⟩
  | dK kvs => obtain ⟨xs, e1, r⟩ := q; exact ⟨xs, ka.trans e1, paired_mono (fun _ _ z => ⟨z.1, relA_mono e z.2⟩) r⟩
theorem HM.new {K : PySem.W.Frag} {H : Hp} {μ : Mu} (h : HM K H μ) {p : Addr} (n : H p = none) (o : HO) : HM K (upd H p o) μ :=
  h.mono (hid_new h n o) fun a ha => upd_ne fun z => by subst z; rw [h.ne n] at ha; cases ha
/-- a cell stored, or laid anew -/
theorem hid_store {H : Hp} {μ : Mu} {a : Addr} (ha : hid H μ a = none) (o : HO) (m : MO) : hid (upd H a o) (mset μ a (some m)) = hid H μ := by
  funext b
  by_cases e : b = a
  · subst e
    rw [ha]
    unfold hid
    rw [mset_same]
    rfl
  · unfold hid
    rw [mset_ne e, upd_ne e]
theorem hid_cell {H : Hp} {μ : Mu} {a : Addr} {m : MO} (h : μ a = some m) : hid H μ a = none := by
  unfold hid; rw [h]; rfl
theorem HM.store {K : PySem.W.Frag} {H : Hp} {μ : Mu} (h : HM K H μ) {a : Addr} (ha : hid H μ a = none) {xs : List V} {as : List AV} (r : RelAs K (hid H μ) xs as) : HM K (upd H a (.lst xs)) (mset μ a (some (.lst as))) := fun b m hb => by
  rw [hid_store ha]
  by_cases e : b = a
  · subst e
    rw [mset_same] at hb
    cases hb
    exact ⟨xs, upd_same, r⟩
  · rw [mset_ne e] at hb
    have q := h b m hb
    cases m with
    | lst as => obtain ⟨ys, e1, r1⟩ := q; exact ⟨ys, (upd_ne e).trans e1, r1⟩
    | dK kvs => obtain ⟨ys, e1, r1⟩ := q; exact ⟨ys, (upd_ne e).trans e1, r1⟩
theorem HM.lst {K : PySem.W.Frag} {H : Hp} {μ : Mu} (h : HM K H μ) {a : Addr} {as : List AV} (e : μ a = some (.lst as)) : ∃ xs, H a = some (.lst xs) ∧ RelAs K (hid H μ) xs as := h a _ e
/-- a cell that nobody changes any more is data -/
theorem hid_freeze {H : Hp} {μ : Mu} (a : Addr) : Same (hid H μ) (hid H (mset μ a none)) := fun b o e => by
  obtain ⟨e1, e2⟩ := hid_some e
  have z : mset μ a none b = none := by
    by_cases q : b = a
    · rw [q]; exact mset_same
    · rw [mset_ne q]; exact e1
  rw [hid_none z]
  exact e2
theorem HM.freeze {K : PySem.W.Frag} {H : Hp} {μ : Mu} (h : HM K H μ) (a : Addr) : HM K H (mset μ a none) := fun b m hb => by
  have nb : b ≠ a := fun z => by subst z; rw [mset_same] at hb; cases hb
  rw [mset_ne nb] at hb
  have q := h b m hb
  cases m with
  | lst as => obtain ⟨xs, e1, r⟩ := q; exact ⟨xs, e1, relAs_mono (hid_freeze a) r⟩
  | dK kvs => obtain ⟨xs, e1, r⟩ := q; exact ⟨xs, e1, paired_mono (fun _ _ z => ⟨z.1, relA_mono (hid_freeze a) z.2⟩) r⟩
theorem dp_freeze {K : PySem.W.Frag} {H : Hp} {μ : Mu} (h : HM K H μ) {a : Addr} {ds : List PyData} (e : μ a = some (.lst (ds.map AV.dat))) : Dp K0 (hid H (mset μ a none)) (.ref a) (.list ds) := by
  obtain ⟨xs, e1, r⟩ := h.lst e
  refine .lst (xs := xs) (.inl (.inl ?_)) (dpAll_mono (hid_freeze a) (relAs_dat.mpr r))
  rw [hid_none mset_same]
  exact e1

/-! ### slots -/
abbrev Dl := List (Option AV)
structure Rel (K : PySem.W.Frag) (H : Hp) (σ : L2.St) (δ : Dl) : Prop where
  len : σ.length = δ.length
  get : ∀ (i : Nat) (a : AV), δ[i]? = some (some a) → ∃ v : V, σ[i]? = some (some v) ∧ RelA K H v a
theorem Rel.mono {K : PySem.W.Frag} {H H' : Hp} {σ : L2.St} {δ : Dl} (e : Same H H') (R : Rel K H σ δ) : Rel K H' σ δ :=
  ⟨R.len, fun i a h => let ⟨v, h1, h2⟩ := R.get i a h; ⟨v, h1, relA_mono e h2⟩⟩
theorem Rel.set {K : PySem.W.Frag} {H : Hp} {σ : L2.St} {δ : Dl} (R : Rel K H σ δ) (i : Nat) {v : V} {a : AV} (r : RelA K H v a) : Rel K H (σ.set i (some v)) (δ.set i (some a)) := by
  refine ⟨by rw [List.length_set, List.length_set]; exact R.len, fun j b h => ?_⟩
  by_cases e : i = j
  · subst e
    by_cases hi : i < δ.length
    · rw [List.getElem?_set_self hi] at h
      cases h
      exact ⟨v, List.getElem?_set_self (by rw [R.len]; exact hi), r⟩
    · rw [List.getElem?_eq_none (by rw [List.length_set]; omega)] at h
      cases h
  · rw [List.getElem?_set_ne e] at h ⊢
    exact R.get j b h
def wipeD (δ : Dl) : List Nat → Dl
  | [] => δ
  | v :: vs => (wipeD δ vs).set v none
theorem Rel.wipe {K : PySem.W.Frag} {H : Hp} {σ : L2.St} {δ : Dl} (R : Rel K H σ δ) : ∀ vs : List Nat, Rel K H (L2.wipe σ vs) (wipeD δ vs)
  | [] => R
  | v :: vs => by
    have q := R.wipe vs
    refine ⟨by unfold L2.wipe wipeD; rw [List.length_set, List.length_set]; exact q.len, fun j b h => ?_⟩
    unfold wipeD at h
    unfold L2.wipe
    by_cases e : v = j
    · subst e
      by_cases hv : v < (wipeD δ vs).length
      · rw [List.getElem?_set_self hv] at h
        cases h
      · rw [List.getElem?_eq_none (by rw [List.length_set]; omega)] at h
        cases h
    · rw [List.getElem?_set_ne e] at h ⊢
      exact q.get j b h

/-! ### judgements -/
abbrev DV := AV → Mu → Prop
abbrev DEx := Dl → Mu → DV → Prop
abbrev DTx := Dl → Mu → (Bool → Mu → Prop) → Prop
abbrev DAx := Dl → Mu → (List AV → Mu → Prop) → Prop
/-- what follows, by values and heap, from what follows by data -/
def Cont (K : PySem.W.Frag) (H : Hp) (μ : Mu) (P : DV) (Q : VK) : Prop :=
  ∀ v H' a μ', Same (hid H μ) (hid H' μ') → HM K H' μ' → RelA K (hid H' μ') v a → P a μ' → Q v H'
theorem Cont.from {K : PySem.W.Frag} {H H1 : Hp} {μ μ1 : Mu} {P : DV} {Q : VK} (c : Cont K H μ P Q) (e : Same (hid H μ) (hid H1 μ1)) : Cont K H1 μ1 P Q :=
  fun v H' a μ' s h r p => c v H' a μ' (e.trans s) h r p
theorem Cont.here {K : PySem.W.Frag} {H : Hp} {μ : Mu} {P : DV} {Q : VK} (c : Cont K H μ P Q) (h : HM K H μ) {v : V} {a : AV} (r : RelA K (hid H μ) v a) (p : P a μ) : Q v H := c v H a μ (Same.refl _) h r p
/-- .. at a new object that never changes -/
theorem Cont.new {K : PySem.W.Frag} {H : Hp} {μ : Mu} {P : DV} {Q : VK} (c : Cont K H μ P Q) (h : HM K H μ) {p : Addr} (n : H p = none) {o : HO} {a : AV} (r : RelA K (hid (upd H p o) μ) (.ref p) a) (q : P a μ) : Q (.ref p) (upd H p o) :=
  c _ _ a μ (hid_new h n o) (h.new n o) r q
theorem rel_lst {K : PySem.W.Frag} {H : Hp} {μ : Mu} (h : HM K H μ) {p : Addr} (n : H p = none) {xs : List V} {ds : List PyData} (r : DpAll K0 (hid H μ) xs ds) : RelA K (hid (upd H p (.lst xs)) μ) (.ref p) (.dat (.list ds)) :=
  .lst (.inl (.inl (by rw [hid_none (h.ne n)]; exact upd_same))) (dpAll_mono (hid_new h n _) r)
theorem rel_tup {K : PySem.W.Frag} {H : Hp} {μ : Mu} (h : HM K H μ) {p : Addr} (n : H p = none) {xs : List V} {ds : List PyData} (r : DpAll K0 (hid H μ) xs ds) : RelA K (hid (upd H p (.tup xs)) μ) (.ref p) (.dat (.tuple ds)) :=
  .tup (.inl (.inl (by rw [hid_none (h.ne n)]; exact upd_same))) (dpAll_mono (hid_new h n _) r)
def SE (K : PySem.W.Frag) (t : TE) (M : DEx) : Prop := ∀ σ H Q δ μ P, Rel K (hid H μ) σ δ → HM K H μ → M δ μ P → Cont K H μ P Q → t σ H Q
def ST (K : PySem.W.Frag) (t : TT) (M : DTx) : Prop := ∀ σ H (Q : Bool → Hp → Prop) δ μ P, Rel K (hid H μ) σ δ → HM K H μ → M δ μ P → (∀ b H' μ', Same (hid H μ) (hid H' μ') → HM K H' μ' → P b μ' → Q b H') → t σ H Q
def SA (K : PySem.W.Frag) (t : TA) (M : DAx) : Prop := ∀ σ H (Q : List V → Hp → Prop) δ μ P, Rel K (hid H μ) σ δ → HM K H μ → M δ μ P → (∀ vs H' as μ', Same (hid H μ) (hid H' μ') → HM K H' μ' → RelAs K (hid H' μ') vs as → P as μ' → Q vs H') → t σ H Q
structure DE (X : Cx) (e : Expr) (t : TE) (M : DEx) : Prop where
  pe : PE X e t
  se : SE X.K t M
structure DT (X : Cx) (e : Expr) (t : TT) (M : DTx) : Prop where
  pt : PT X e t
  st : ST X.K t M
structure DW (X : Cx) (e : Expr) (t : TT) (M : DTx) : Prop where
  pw : PW X e t
  st : ST X.K t M
theorem DW.dt {X : Cx} {e : Expr} {t : TT} {M : DTx} (h : DW X e t M) : DT X e t M := ⟨h.pw.pt, h.st⟩
structure DA (X : Cx) (es : List Expr) (t : TA) (M : DAx) : Prop where
  pa : PA X es t
  sa : SA X.K t M
/-- an operation on two values -/
abbrev DO2 := AV → AV → Mu → DV → Prop
def SO2 (K : PySem.W.Frag) (r : R2) (d : DO2) : Prop := ∀ x y H Q a b μ P, HM K H μ → RelA K (hid H μ) x a → RelA K (hid H μ) y b → d a b μ P → Cont K H μ P Q → r x y H Q
abbrev DO1 := AV → Mu → DV → Prop
def SO1 (K : PySem.W.Frag) (r : V → Hp → VK → Prop) (d : DO1) : Prop := ∀ x H Q a μ P, HM K H μ → RelA K (hid H μ) x a → d a μ P → Cont K H μ P Q → r x H Q
abbrev DOs := List AV → Mu → DV → Prop
def SOs (K : PySem.W.Frag) (r : List V → Hp → VK → Prop) (d : DOs) : Prop := ∀ xs H Q as μ P, HM K H μ → RelAs K (hid H μ) xs as → d as μ P → Cont K H μ P Q → r xs H Q

section
variable {X : Cx} {a b c : Expr} {ta tb tc : TE} {Ma Mb Mc : DEx} {pos : Pos} {es : List Expr} {t : TA} {MA : DAx}
def mVar (i : Nat) : DEx := fun δ μ P => ∃ v, δ[i]? = some (some v) ∧ P v μ
theorem de_var {i : Nat} {e : Expr} (h : PE X e (tVar i)) : DE X e (tVar i) (mVar i) :=
  ⟨h, fun σ H Q δ μ P R hm ⟨a, e, p⟩ c => let ⟨v, e1, r⟩ := R.get i a e; ⟨v, e1, c.here hm r p⟩⟩
def mC (d : PyData) : DEx := fun _ μ P => P (.dat d) μ
theorem de_int {i j} : DE X (.Constant (.int i) j pos) (tC (.int i)) (mC (.int i)) := ⟨pe_int, fun _ _ _ _ _ _ _ hm p c => c.here hm (rI i) p⟩
theorem de_bl {i j} : DE X (.Constant (.bool i) j pos) (tC (.bl i)) (mC (.bool i)) := ⟨pe_bl, fun _ _ _ _ _ _ _ hm p c => c.here hm (rB i) p⟩
theorem de_non {j} : DE X (.Constant .none j pos) (tC .non) (mC .none) := ⟨pe_non, fun _ _ _ _ _ _ _ hm p c => c.here hm rN p⟩
theorem de_str {i j} : DE X (.Constant (.str i) j pos) (tC (.str i)) (mC (.str i)) := ⟨pe_str, fun _ _ _ _ _ _ _ hm p c => c.here hm (rS i) p⟩
/-- a module's constant -/
theorem de_globI {e : Expr} {i : Int} (h : PE X e (tC (.int i))) : DE X e (tC (.int i)) (mC (.int i)) := ⟨h, fun _ _ _ _ _ _ _ hm p c => c.here hm (rI i) p⟩
theorem de_globS {e : Expr} {i : Str} (h : PE X e (tC (.str i))) : DE X e (tC (.str i)) (mC (.str i)) := ⟨h, fun _ _ _ _ _ _ _ hm p c => c.here hm (rS i) p⟩
def mCls (n : String) : DEx := fun _ μ P => P (.cls n) μ
theorem de_cls {e : Expr} {i : String} (h : PE X e (tC (.ty i))) : DE X e (tC (.ty i)) (mCls i) := ⟨h, fun _ _ _ _ _ _ _ hm p c => c.here hm (a := .cls i) rfl p⟩
def mOp (d : DO2) (Ma Mb : DEx) : DEx := fun δ μ P => Ma δ μ fun x μ1 => Mb δ μ1 fun y μ2 => d x y μ2 P
theorem se_op {K : PySem.W.Frag} {r : R2} {d : DO2} (hd : SO2 K r d) (ha : SE K ta Ma) (hb : SE K tb Mb) : SE K (tOp r ta tb) (mOp d Ma Mb) := fun σ H Q δ μ P R hm m c =>
  ha σ H _ δ μ _ R hm m fun x H1 av μ1 e1 hm1 r1 m1 => hb σ H1 _ δ μ1 _ (R.mono e1) hm1 m1 fun y H2 bv μ2 e2 hm2 r2 m2 => hd x y H2 Q av bv μ2 P hm2 (relA_mono e2 r1) r2 m2 (c.from (e1.trans e2))
theorem de_op {op : Operator} {r : R2} {d : DO2} (ho : OpR X (binaryOp op) r) (hd : SO2 X.K r d) (ha : DE X a ta Ma) (hb : DE X b tb Mb) : DE X (.BinOp a op b pos) (tOp r ta tb) (mOp d Ma Mb) := ⟨pe_op ho ha.pe hb.pe, se_op hd ha.se hb.se⟩
theorem de_cmp {op : CmpOp} {r : R2} {d : DO2} (ho : OpR X (compareOp op) r) (hd : SO2 X.K r d) (ha : DE X a ta Ma) (hb : DE X b tb Mb) (hm : behindInMarks op b = false := by first | exact nobehind _ (by decide) (by decide) | rfl) : DE X (.Compare a [op] [b] pos) (tOp r ta tb) (mOp d Ma Mb) := ⟨pe_cmpR ho ha.pe hb.pe hm, se_op hd ha.se hb.se⟩
def mUn (d : DO1) (Ma : DEx) : DEx := fun δ μ P => Ma δ μ fun x μ1 => d x μ1 P
theorem se_un {K : PySem.W.Frag} {r : V → Hp → VK → Prop} {d : DO1} (hd : SO1 K r d) (ha : SE K ta Ma) : SE K (tUn r ta) (mUn d Ma) := fun σ H Q δ μ P R hm m c =>
  ha σ H _ δ μ _ R hm m fun x H1 av μ1 e1 hm1 r1 m1 => hd x H1 Q av μ1 P hm1 r1 m1 (c.from e1)
theorem de_un {op : UnaryOp} {r : V → Hp → VK → Prop} {d : DO1} (ho : UnR X (unaryOp op) r) (hd : SO1 X.K r d) (ha : DE X a ta Ma) : DE X (.UnaryOp op a pos) (tUn r ta) (mUn d Ma) := ⟨pe_un ho ha.pe, se_un hd ha.se⟩
/-- a < b < c, both comparisons data to truth -/
def mChain (d d' : DO2) (Ma Mb Mc : DEx) : DEx := fun δ μ P => Ma δ μ fun x μ1 => Mb δ μ1 fun y μ2 => d x y μ2 fun z μ3 => ∃ k, z = .dat (.bool k) ∧ (if k = true then Mc δ μ3 fun w μ4 => d' y w μ4 P else P (.dat (.bool false)) μ3)
theorem dp_bl {K : PySem.W.Frag} {H : Hp} {v : V} {k : Bool} (h : RelA K H v (.dat (.bool k))) : v = .bl k := by
  cases h
  rfl
theorem dp_int {K : PySem.W.Frag} {H : Hp} {v : V} {k : Int} (h : RelA K H v (.dat (.int k))) : v = .int k := by
  cases h
  rfl
theorem dp_str {K : PySem.W.Frag} {H : Hp} {v : V} {k : Str} (h : RelA K H v (.dat (.str k))) : v = .str k := by
  cases h
  rfl
theorem dp_non {K : PySem.W.Frag} {H : Hp} {v : V} (h : RelA K H v (.dat .none)) : v = .non := by
  cases h
  rfl
theorem dp_list {K : PySem.W.Frag} {H : Hp} {v : V} {ds : List PyData} (h : RelA K H v (.dat (.list ds))) : ∃ a xs, v = .ref a ∧ Rd H a (.lst xs) ∧ DpAll K0 H xs ds := by
  cases h with
  | lst h1 h2 => exact ⟨_, _, rfl, k0_lst h1, h2⟩
theorem dp_tuple {K : PySem.W.Frag} {H : Hp} {v : V} {ds : List PyData} (h : RelA K H v (.dat (.tuple ds))) : ∃ a xs, v = .ref a ∧ Rd H a (.tup xs) ∧ DpAll K0 H xs ds := by
  cases h with
  | tup h1 h2 => exact ⟨_, _, rfl, k0_tup h1, h2⟩
theorem se_chain {K : PySem.W.Frag} {r r' : R2} {d d' : DO2} (hd : SO2 K r d) (hd' : SO2 K r' d') (ha : SE K ta Ma) (hb : SE K tb Mb) (hc : SE K tc Mc) : SE K (tChain r r' ta tb tc) (mChain d d' Ma Mb Mc) := fun σ H Q δ μ P R hm m c =>
  ha σ H _ δ μ _ R hm m fun x H1 av μ1 e1 hm1 r1 m1 => hb σ H1 _ δ μ1 _ (R.mono e1) hm1 m1 fun y H2 bv μ2 e2 hm2 r2 m2 => hd x y H2 _ av bv μ2 _ hm2 (relA_mono e2 r1) r2 m2 fun z H3 zv μ3 e3 hm3 r3 ⟨k, ez, m3⟩ => by
    subst ez
    have q := dp_bl r3
    subst q
    refine ⟨k, rfl, ?_⟩
    cases k with
    | true => exact hc σ H3 _ δ μ3 _ (R.mono ((e1.trans e2).trans e3)) hm3 m3 fun w H4 wv μ4 e4 hm4 r4 m4 => hd' y w H4 Q bv wv μ4 P hm4 (relA_mono (e3.trans e4) r2) r4 m4 (c.from (((e1.trans e2).trans e3).trans e4))
    | false => exact (c.from ((e1.trans e2).trans e3)).here hm3 (rB false) m3
theorem de_chain {op op' : CmpOp} {r r' : R2} {d d' : DO2} (ho : OpR X (compareOp op) r) (ho' : OpR X (compareOp op') r') (hd : SO2 X.K r d) (hd' : SO2 X.K r' d') (ha : DE X a ta Ma) (hb : DE X b tb Mb) (hc : DE X c tc Mc) (hm : lastMarks [op, op'] [b, c] = false := by with_unfolding_all rfl) :
    DE X (.Compare a [op, op'] [b, c] pos) (tChain r r' ta tb tc) (mChain d d' Ma Mb Mc) := ⟨pe_chain ho ho' ha.pe hb.pe hc.pe hm, se_chain hd hd' ha.se hb.se hc.se⟩
/-- and, or, not as values (all but the last truths) -/
def mAnd (Ma Mb : DEx) : DEx := fun δ μ P => Ma δ μ fun x μ1 => ∃ k, x = .dat (.bool k) ∧ if k = true then Mb δ μ1 P else P (.dat (.bool false)) μ1
def mOr (Ma Mb : DEx) : DEx := fun δ μ P => Ma δ μ fun x μ1 => ∃ k, x = .dat (.bool k) ∧ if k = true then P (.dat (.bool true)) μ1 else Mb δ μ1 P
def mNot (Ma : DEx) : DEx := fun δ μ P => Ma δ μ fun x μ1 => ∃ k, x = .dat (.bool k) ∧ P (.dat (.bool !k)) μ1
theorem de_one {op} (h : DE X a ta Ma) : DE X (.BoolOp op [a] pos) ta Ma := ⟨pe_one h.pe, h.se⟩
theorem de_and {rest : List Expr} (ha : DE X a ta Ma) (hb : DE X (.BoolOp .And (b :: rest) pos) tb Mb) : DE X (.BoolOp .And (a :: b :: rest) pos) (tAndV ta tb) (mAnd Ma Mb) := ⟨pe_and ha.pe hb.pe, fun σ H Q δ μ P R hm m c =>
  ha.se σ H _ δ μ _ R hm m fun x H1 av μ1 e1 hm1 r1 ⟨k, ex, m1⟩ => by
    subst ex
    refine ⟨k, dp_bl r1, ?_⟩
    cases k with
    | true => exact hb.se σ H1 Q δ μ1 P (R.mono e1) hm1 m1 (c.from e1)
    | false => exact (c.from e1).here hm1 (rB false) m1⟩
theorem de_or {rest : List Expr} (ha : DE X a ta Ma) (hb : DE X (.BoolOp .Or (b :: rest) pos) tb Mb) : DE X (.BoolOp .Or (a :: b :: rest) pos) (tOrV ta tb) (mOr Ma Mb) := ⟨pe_or ha.pe hb.pe, fun σ H Q δ μ P R hm m c =>
  ha.se σ H _ δ μ _ R hm m fun x H1 av μ1 e1 hm1 r1 ⟨k, ex, m1⟩ => by
    subst ex
    refine ⟨k, dp_bl r1, ?_⟩
    cases k with
    | false => exact hb.se σ H1 Q δ μ1 P (R.mono e1) hm1 m1 (c.from e1)
    | true => exact (c.from e1).here hm1 (rB true) m1⟩
theorem de_not (ha : DE X a ta Ma) : DE X (.UnaryOp .Not a pos) (tNotV ta) (mNot Ma) := ⟨pe_not ha.pe, fun σ H Q δ μ P R hm m c =>
  ha.se σ H _ δ μ _ R hm m fun x H1 av μ1 e1 hm1 r1 ⟨k, ex, m1⟩ => by
    subst ex
    exact ⟨k, dp_bl r1, (c.from e1).here hm1 (rB _) m1⟩⟩
/-! tests -/
def mTest (Ma : DEx) : DTx := fun δ μ P => Ma δ μ fun x μ1 => ∃ k, x = .dat (.bool k) ∧ P k μ1
theorem st_val {K : PySem.W.Frag} (h : SE K ta Ma) : ST K (tB ta) (mTest Ma) := fun σ H Q δ μ P R hm m c =>
  h σ H _ δ μ _ R hm m fun x H1 av μ1 e1 hm1 r1 ⟨k, ex, m1⟩ => by
    subst ex
    exact ⟨k, dp_bl r1, c k H1 μ1 e1 hm1 m1⟩
theorem dt_val (h : DE X a ta Ma) (he : ∀ whole, isTrue a X.env whole = (do let v ← whole; standAt a.pos; holding [v] (truthy v)) := by intro _; rfl) : DT X a (tB ta) (mTest Ma) := ⟨pt_val h.pe he, st_val h.se⟩
theorem dt_cmp {op : CmpOp} {r : R2} {d : DO2} (ho : OpR X (compareOp op) r) (hd : SO2 X.K r d) (ha : DE X a ta Ma) (hb : DE X b tb Mb) (hm : behindInMarks op b = false := by first | exact nobehind _ (by decide) (by decide) | rfl) : DT X (.Compare a [op] [b] pos) (tTest (tOp r ta tb)) (mTest (mOp d Ma Mb)) := ⟨pt_cmpR ho ha.pe hb.pe hm, st_val (se_op hd ha.se hb.se)⟩
theorem dt_chain {op op' : CmpOp} {r r' : R2} {d d' : DO2} (ho : OpR X (compareOp op) r) (ho' : OpR X (compareOp op') r') (hd : SO2 X.K r d) (hd' : SO2 X.K r' d') (ha : DE X a ta Ma) (hb : DE X b tb Mb) (hc : DE X c tc Mc) (hm : lastMarks [op, op'] [b, c] = false := by with_unfolding_all rfl) :
    DT X (.Compare a [op, op'] [b, c] pos) (tTest (tChain r r' ta tb tc)) (mTest (mChain d d' Ma Mb Mc)) := ⟨pt_chain ho ho' ha.pe hb.pe hc.pe hm, st_val (se_chain hd hd' ha.se hb.se hc.se)⟩
variable {tA tB' : TT} {MT MT' : DTx} {rest : List Expr}
def mTAnd (M M' : DTx) : DTx := fun δ μ P => M δ μ fun k μ1 => if k = true then M' δ μ1 P else P false μ1
def mTOr (M M' : DTx) : DTx := fun δ μ P => M δ μ fun k μ1 => if k = true then P true μ1 else M' δ μ1 P
def mTNot (M : DTx) : DTx := fun δ μ P => M δ μ fun k μ1 => P (!k) μ1
theorem dw_and1 (ha : DT X a tA MT) : DW X (.BoolOp .And [a] pos) tA MT := ⟨pw_and1 ha.pt, ha.st⟩
theorem dw_or1 (ha : DT X a tA MT) : DW X (.BoolOp .Or [a] pos) tA MT := ⟨pw_or1 ha.pt, ha.st⟩
theorem dw_and (ha : DT X a tA MT) (hb : DW X (.BoolOp .And (b :: rest) pos) tB' MT') : DW X (.BoolOp .And (a :: b :: rest) pos) (tAnd tA tB') (mTAnd MT MT') := ⟨pw_and ha.pt hb.pw, fun σ H Q δ μ P R hm m c =>
  ha.st σ H _ δ μ _ R hm m fun k H1 μ1 e1 hm1 m1 => by
    cases k with
    | true => exact hb.st σ H1 Q δ μ1 P (R.mono e1) hm1 m1 fun b H2 μ2 e2 => c b H2 μ2 (e1.trans e2)
    | false => exact c false H1 μ1 e1 hm1 m1⟩
theorem dw_or (ha : DT X a tA MT) (hb : DW X (.BoolOp .Or (b :: rest) pos) tB' MT') : DW X (.BoolOp .Or (a :: b :: rest) pos) (tOr tA tB') (mTOr MT MT') := ⟨pw_or ha.pt hb.pw, fun σ H Q δ μ P R hm m c =>
  ha.st σ H _ δ μ _ R hm m fun k H1 μ1 e1 hm1 m1 => by
    cases k with
    | false => exact hb.st σ H1 Q δ μ1 P (R.mono e1) hm1 m1 fun b H2 μ2 e2 => c b H2 μ2 (e1.trans e2)
    | true => exact c true H1 μ1 e1 hm1 m1⟩
theorem dt_not (ha : DT X a tA MT) : DT X (.UnaryOp .Not a pos) (tNot tA) (mTNot MT) := ⟨pt_not ha.pt, fun σ H Q δ μ P R hm m c => ha.st σ H _ δ μ _ R hm m fun k H1 μ1 e1 hm1 m1 => c _ H1 μ1 e1 hm1 m1⟩
def mIf (MT : DTx) (Ma Mb : DEx) : DEx := fun δ μ P => MT δ μ fun k μ1 => if k = true then Ma δ μ1 P else Mb δ μ1 P
theorem de_if {g : Expr} (hg : DT X g tA MT) (ha : DE X a ta Ma) (hb : DE X b tb Mb) : DE X (.IfExp g a b pos) (tIf tA ta tb) (mIf MT Ma Mb) := ⟨pe_ifExp hg.pt ha.pe hb.pe, fun σ H Q δ μ P R hm m c =>
  hg.st σ H _ δ μ _ R hm m fun k H1 μ1 e1 hm1 m1 => by
    cases k with
    | true => exact ha.se σ H1 Q δ μ1 P (R.mono e1) hm1 m1 (c.from e1)
    | false => exact hb.se σ H1 Q δ μ1 P (R.mono e1) hm1 m1 (c.from e1)⟩
/-! arguments, displays -/
def mNil : DAx := fun _ μ P => P [] μ
def mCons (Ma : DEx) (MA : DAx) : DAx := fun δ μ P => Ma δ μ fun x μ1 => MA δ μ1 fun xs μ2 => P (x :: xs) μ2
theorem da_nil : DA X [] tNil mNil := ⟨pa_nil, fun _ H _ _ μ _ _ hm m c => c [] H [] μ (Same.refl _) hm .nil m⟩
theorem da_cons (ha : DE X a ta Ma) (h : DA X es t MA) (hs : starEach (a :: es) X.env = (false, eval a X.env) :: starEach es X.env := by rfl) : DA X (a :: es) (tCons ta t) (mCons Ma MA) := ⟨pa_cons ha.pe h.pa hs, fun σ H Q δ μ P R hm m c =>
  ha.se σ H _ δ μ _ R hm m fun x H1 av μ1 e1 hm1 r1 m1 => h.sa σ H1 _ δ μ1 _ (R.mono e1) hm1 m1 fun xs H2 as μ2 e2 hm2 r2 m2 => c (x :: xs) H2 (av :: as) μ2 (e1.trans e2) hm2 (.cons (relA_mono e2 r1) r2) m2⟩
/-- all data -/
def asD : List AV → Option (List PyData)
  | [] => some []
  | .dat d :: r => (asD r).map (d :: ·)
  | _ => none
theorem asD_eq : ∀ {as : List AV} {ds : List PyData}, asD as = some ds → as = ds.map AV.dat
  | [], _, h => by simp only [asD, Option.some.injEq] at h; subst h; rfl
  | .dat d :: r, ds, h => by
    simp only [asD] at h
    cases e : asD r with
    | none => rw [e] at h; cases h
    | some es =>
      rw [e] at h
      cases h
      rw [asD_eq e]
      rfl
  | .mut _ :: _, _, h => by simp [asD] at h
  | .cls _ :: _, _, h => by simp [asD] at h
  | .raw _ :: _, _, h => by simp [asD] at h
theorem asD_map : ∀ ds : List PyData, asD (ds.map AV.dat) = some ds
  | [] => rfl
  | d :: ds => by simp only [List.map_cons, asD, asD_map ds, Option.map_some]
def mTup (MA : DAx) : DEx := fun δ μ P => MA δ μ fun as μ1 => ∃ ds, asD as = some ds ∧ ds.length ≤ sizeLine ∧ P (.dat (.tuple ds)) μ1
theorem de_tup {x1} (h : DA X es t MA) : DE X (.Tuple es x1 pos) (tTup t) (mTup MA) := ⟨pe_tup h.pa, fun σ H Q δ μ P R hm m c =>
  h.sa σ H _ δ μ _ R hm m fun xs H1 as μ1 e1 hm1 r1 ⟨ds, ea, hz, m1⟩ => by
    rw [asD_eq ea] at r1
    have r := relAs_dat.mpr r1
    exact ⟨by rw [dpAll_len r]; exact hz, fun p n => (c.from e1).new hm1 n (rel_tup hm1 n r) m1⟩⟩
def mLst (MA : DAx) : DEx := fun δ μ P => MA δ μ fun as μ1 => ∃ ds, asD as = some ds ∧ ds.length ≤ sizeLine ∧ P (.dat (.list ds)) μ1
theorem de_lst (h : DA X es t MA) : DE X (.List es pos) (tLst t) (mLst MA) := ⟨pe_lst h.pa, fun σ H Q δ μ P R hm m c =>
  h.sa σ H _ δ μ _ R hm m fun xs H1 as μ1 e1 hm1 r1 ⟨ds, ea, hz, m1⟩ => by
    rw [asD_eq ea] at r1
    have r := relAs_dat.mpr r1
    exact ⟨by rw [dpAll_len r]; exact hz, fun p n => (c.from e1).new hm1 n (rel_lst hm1 n r) m1⟩⟩
theorem paired_len {α β : Type} {R : α → β → Prop} {xs : List α} {ys : List β} (h : Paired R xs ys) : xs.length = ys.length := Paired.length h
/-- a list that may change -/
def mLstM (MA : DAx) : DEx := fun δ μ P => MA δ μ fun as μ1 => as.length ≤ sizeLine ∧ ∀ p, μ1 p = none → P (.mut p) (mset μ1 p (some (.lst as)))
theorem dm_lst (h : DA X es t MA) : DE X (.List es pos) (tLst t) (mLstM MA) := ⟨pe_lst h.pa, fun σ H Q δ μ P R hm m c =>
  h.sa σ H _ δ μ _ R hm m fun xs H1 as μ1 e1 hm1 r1 ⟨hz, m1⟩ => ⟨by rw [paired_len r1]; exact hz, fun p n => by
    have hp : hid H1 μ1 p = none := by rw [hid_none (hm1.ne n)]; exact n
    refine c _ _ (.mut p) (mset μ1 p (some (.lst as))) ?_ (hm1.store hp r1) rfl (m1 p (hm1.ne n))
    rw [hid_store hp]
    exact e1⟩⟩
/-- what was a cell is data from now on -/
def mFrz (Ma : DEx) : DEx := fun δ μ P => Ma δ μ fun x μ1 => ∃ p ds, x = .mut p ∧ μ1 p = some (.lst (ds.map AV.dat)) ∧ P (.dat (.list ds)) (mset μ1 p none)
theorem de_frz (h : DE X a ta Ma) : DE X a ta (mFrz Ma) := ⟨h.pe, fun σ H Q δ μ P R hm m c =>
  h.se σ H _ δ μ _ R hm m fun x H1 av μ1 e1 hm1 r1 ⟨p, ds, ea, hp, m1⟩ => by
    subst ea
    cases (show x = .ref p from r1)
    exact c _ _ (.dat (.list ds)) (mset μ1 p none) (e1.trans (hid_freeze p)) (hm1.freeze p) (dp_freeze hm1 hp) m1⟩
/-- a cell that nobody changes any more is left out of sight -/
def mDrp (Ma : DEx) : DEx := fun δ μ P => Ma δ μ fun x μ1 => ∃ p : Addr, P x (mset μ1 p none)
theorem de_drp (h : DE X a ta Ma) : DE X a ta (mDrp Ma) := ⟨h.pe, fun σ H Q δ μ P R hm m c =>
  h.se σ H _ δ μ _ R hm m fun x H1 av μ1 e1 hm1 r1 ⟨p, m1⟩ => c _ _ av (mset μ1 p none) (e1.trans (hid_freeze p)) (hm1.freeze p) (relA_mono (hid_freeze p) r1) m1⟩
/-! calls -/
def mCall (d : DOs) (MA : DAx) : DEx := fun δ μ P => MA δ μ fun as μ1 => d as μ1 P
theorem se_args {K : PySem.W.Frag} {r : List V → Hp → VK → Prop} {d : DOs} (hd : SOs K r d) (h : SA K t MA) : SE K (fun σ H Q => t σ H fun vs H1 => r vs H1 Q) (mCall d MA) := fun σ H Q δ μ P R hm m c =>
  h σ H _ δ μ _ R hm m fun xs H1 as μ1 e1 hm1 r1 m1 => hd xs H1 Q as μ1 P hm1 r1 m1 (c.from e1)
theorem de_callB {x : Str} {id' : String} {p : Pos} {r : List V → Hp → VK → Prop} {d : DOs} (hc : CallR X (.builtin id') r) (hd : SOs X.K r d) (hg : Gl X x) (hm : X.mg x = none) (hv : bootBuiltins x = some (.builtin id')) (h : DA X (a :: es) t MA)
    (hn : x ≠ "__name__" := by decide) (hdb : (x == ("__debug__" : Str)) = false := by decide) (he : starEach (a :: es) X.env = (false, eval a X.env) :: starEach es X.env := by rfl) (hpl : (backTo pos (starEach es X.env)).any (·.1) = false := by rfl) :
    DE X (.Call (.Name x p) (a :: es) [] pos) (tCB r t) (mCall d MA) := ⟨pe_callB hc hg hm hv h.pa hn hdb he hpl, se_args hd h.sa⟩
theorem de_callTy {x : Str} {T : String} {p : Pos} {r : List V → Hp → VK → Prop} {d : DOs} (hc : CallR X (.type T) r) (hd : SOs X.K r d) (hg : Gl X x) (hm : X.mg x = none) (hv : bootBuiltins x = some (.type T)) (h : DA X (a :: es) t MA)
    (hn : x ≠ "__name__" := by decide) (hdb : (x == ("__debug__" : Str)) = false := by decide) (he : starEach (a :: es) X.env = (false, eval a X.env) :: starEach es X.env := by rfl) (hpl : (backTo pos (starEach es X.env)).any (·.1) = false := by rfl) :
    DE X (.Call (.Name x p) (a :: es) [] pos) (tCB r t) (mCall d MA) := ⟨pe_callTy hc hg hm hv h.pa hn hdb he hpl, se_args hd h.sa⟩
/-- a def's promise by data -/
def spOf (K : PySem.W.Frag) (n : Nat) (d : DOs) : List V → Hp → VK → Prop := fun vs H Q => vs.length = n ∧ ∃ as μ P, HM K H μ ∧ RelAs K (hid H μ) vs as ∧ d as μ P ∧ Cont K H μ P Q
theorem so_of {K : PySem.W.Frag} {n : Nat} {d : DOs} (hl : ∀ as μ P, d as μ P → as.length = n) : SOs K (spOf K n d) d := fun xs H Q as μ P hm r m c => ⟨(paired_len r).trans (hl _ _ _ m), as, μ, P, hm, r, m, c⟩
end
end DL

namespace DL
open PySem PySem.Spec PyProof.Rows L2
section
variable {X : Cx} {K : PySem.W.Frag}
/-! ### operations on data -/
/-- ints in, an int out, under C -/
def oII (C : Int → Int → Prop) (g : Int → Int → Int) : DO2 := fun a b μ P => ∃ i j, a = .dat (.int i) ∧ b = .dat (.int j) ∧ C i j ∧ P (.dat (.int (g i j))) μ
def oII0 (g : Int → Int → Int) : DO2 := fun a b μ P => ∃ i j, a = .dat (.int i) ∧ b = .dat (.int j) ∧ P (.dat (.int (g i j))) μ
def oIB (g : Int → Int → Bool) : DO2 := fun a b μ P => ∃ i j, a = .dat (.int i) ∧ b = .dat (.int j) ∧ P (.dat (.bool (g i j))) μ
theorem so_II {C : Int → Int → Prop} {g : Int → Int → Int} : SO2 K (L2.rI C fun i j => .int (g i j)) (oII C g) := fun x y H Q a b μ P hm rx ry ⟨i, j, e1, e2, hC, p⟩ c => by
  subst e1 e2
  exact ⟨i, j, dp_int rx, dp_int ry, hC, c.here hm (rI _) p⟩
theorem so_II0 {g : Int → Int → Int} : SO2 K (rI0 fun i j => .int (g i j)) (oII0 g) := fun x y H Q a b μ P hm rx ry ⟨i, j, e1, e2, p⟩ c => by
  subst e1 e2
  exact ⟨i, j, dp_int rx, dp_int ry, c.here hm (rI _) p⟩
theorem so_IB {g : Int → Int → Bool} : SO2 K (rI0 fun i j => .bl (g i j)) (oIB g) := fun x y H Q a b μ P hm rx ry ⟨i, j, e1, e2, p⟩ c => by
  subst e1 e2
  exact ⟨i, j, dp_int rx, dp_int ry, c.here hm (rB _) p⟩
abbrev oAdd := oII0 fun i j => i + j
abbrev oSub := oII0 fun i j => i - j
abbrev oMul := oII CMulW fun i j => i * j
abbrev oDiv := oII CDivW fun i j => i / j
abbrev oMod := oII (fun _ j => 0 < j) fun i j => i % j
abbrev oPow := oII CPow fun i j => i ^ j.toNat
abbrev oLt := oIB fun i j => decide (i < j)
abbrev oLe := oIB fun i j => decide (i ≤ j)
abbrev oGt := oIB fun i j => decide (j < i)
abbrev oGe := oIB fun i j => decide (j ≤ i)
def oNeg : DO1 := fun a μ P => ∃ i, a = .dat (.int i) ∧ P (.dat (.int (-i))) μ
theorem so_neg : SO1 K (rU fun i => .int (-i)) oNeg := fun x H Q a μ P hm rx ⟨i, e1, p⟩ c => by
  subst e1
  exact ⟨i, dp_int rx, c.here hm (rI _) p⟩
/-- == of two of one scalar kind -/
def eqD : PyData → PyData → Option Bool
  | .int i, .int j => some (decide (i = j))
  | .bool i, .bool j => some (decide (i = j))
  | .str i, .str j => some (decide (i = j))
  | _, _ => none
def oEq : DO2 := fun a b μ P => ∃ x y k, a = .dat x ∧ b = .dat y ∧ eqD x y = some k ∧ P (.dat (.bool k)) μ
def oNe : DO2 := fun a b μ P => ∃ x y k, a = .dat x ∧ b = .dat y ∧ eqD x y = some k ∧ P (.dat (.bool !k)) μ
theorem eq_vals {H : Hp} {x y : V} {a b : PyData} {k : Bool} (rx : RelA K H x (.dat a)) (ry : RelA K H y (.dat b)) (e : eqD a b = some k) : scal x y = true ∧ decide (x = y) = k := by
  cases a <;> cases b <;> simp only [eqD, Option.some.injEq, reduceCtorEq] at e <;> subst e
  · rw [dp_bl rx, dp_bl ry]; exact ⟨rfl, by simp⟩
  · rw [dp_int rx, dp_int ry]; exact ⟨rfl, by simp⟩
  · rw [dp_str rx, dp_str ry]; exact ⟨rfl, by simp⟩
theorem so_eq : SO2 K rEq oEq := fun x y H Q a b μ P hm rx ry ⟨d, e, k, e1, e2, ek, p⟩ c => by
  subst e1 e2
  obtain ⟨h1, h2⟩ := eq_vals rx ry ek
  exact ⟨h1, by rw [h2]; exact c.here hm (rB _) p⟩
theorem so_ne : SO2 K rNe oNe := fun x y H Q a b μ P hm rx ry ⟨d, e, k, e1, e2, ek, p⟩ c => by
  subst e1 e2
  obtain ⟨h1, h2⟩ := eq_vals rx ry ek
  exact ⟨h1, by rw [h2]; exact c.here hm (rB _) p⟩
/-! texts -/
def oSS (g : Str → Str → Bool) : DO2 := fun a b μ P => ∃ i j, a = .dat (.str i) ∧ b = .dat (.str j) ∧ P (.dat (.bool (g i j))) μ
theorem so_SS {g : Str → Str → Bool} : SO2 K (fun x y H Q => ∃ i j, x = .str i ∧ y = .str j ∧ Q (.bl (g i j)) H) (oSS g) := fun x y H Q a b μ P hm rx ry ⟨i, j, e1, e2, p⟩ c => by
  subst e1 e2
  exact ⟨i, j, dp_str rx, dp_str ry, c.here hm (rB _) p⟩
abbrev ltS (i j : Str) : Bool := decide (i.cps.toList < j.cps.toList)
abbrev oLtS := oSS fun i j => decide (i.cps.toList < j.cps.toList)
abbrev oGeS := oSS fun i j => !decide (i.cps.toList < j.cps.toList)
def oSign : DO2 := fun a b μ P => ∃ (c : Nat) (z : Str), a = .dat (.str ⟨#[c]⟩) ∧ b = .dat (.str z) ∧ P (.dat (.bool (decide (c ∈ z.cps.toList)))) μ
theorem so_sign : SO2 K (fun x y H Q => ∃ (c : Nat) (z : Str), x = .str ⟨#[c]⟩ ∧ y = .str z ∧ Q (.bl (decide (c ∈ z.cps.toList))) H) oSign := fun x y H Q a b μ P hm rx ry ⟨i, j, e1, e2, p⟩ c => by
  subst e1 e2
  exact ⟨i, j, dp_str rx, dp_str ry, c.here hm (rB _) p⟩
def oAddS : DO2 := fun a b μ P => ∃ i j, a = .dat (.str i) ∧ b = .dat (.str j) ∧ i.length + j.length ≤ sizeLine ∧ P (.dat (.str (i ++ j))) μ
theorem so_addS : SO2 K (fun x y H Q => ∃ i j, x = .str i ∧ y = .str j ∧ i.length + j.length ≤ sizeLine ∧ Q (.str (i ++ j)) H) oAddS := fun x y H Q a b μ P hm rx ry ⟨i, j, e1, e2, hz, p⟩ c => by
  subst e1 e2
  exact ⟨i, j, dp_str rx, dp_str ry, hz, c.here hm (rS _) p⟩
/-- text * int, for 0 and 1 -/
def r01 : R2 := fun x y H Q => ∃ z i, x = .str z ∧ y = .int i ∧ ((i = 0 ∧ Q (.str Str.empty) H) ∨ (i = 1 ∧ z.length ≤ sizeLine ∧ Q (.str z) H))
theorem op_01 : OpR X (binaryOp .Mult) r01 := by
  intro pins s σ H x y v u Q I rx ry h
  obtain ⟨z, i, rfl, rfl, h⟩ := h
  obtain ⟨t, rfl⟩ := rx
  obtain ⟨t', rfl⟩ := ry
  rcases h with ⟨rfl, q⟩ | ⟨rfl, hz, q⟩
  · exact PySem.P.mul_str_none (by decide) (by decide) ⟨.str Str.empty, H, I.tok _, ⟨_, rfl⟩, q⟩
  · refine PySem.P.mul_str (by decide) (fun _ e => by simp at e) (fun _ e => by simp at e) ?_
    rw [if_neg (by decide), if_pos (by simp)]
    exact ⟨.str z, H, I, ⟨_, rfl⟩, q⟩
def oMul01 : DO2 := fun a b μ P => ∃ z i, a = .dat (.str z) ∧ b = .dat (.int i) ∧ ((i = 0 ∧ P (.dat (.str Str.empty)) μ) ∨ (i = 1 ∧ z.length ≤ sizeLine ∧ P (.dat (.str z)) μ))
theorem so_01 : SO2 K r01 oMul01 := fun x y H Q a b μ P hm rx ry ⟨z, i, e1, e2, h⟩ c => by
  subst e1 e2
  refine ⟨z, i, dp_str rx, dp_int ry, ?_⟩
  rcases h with ⟨e, p⟩ | ⟨e, hz, p⟩
  · exact .inl ⟨e, c.here hm (rS _) p⟩
  · exact .inr ⟨e, hz, c.here hm (rS _) p⟩
/-! lists, tuples -/
def rCatS : R2 := fun x y H Q => ∃ l b xs zs, x = .ref l ∧ y = .ref b ∧ Rd H l (.lst xs) ∧ Rd H b (.lst zs) ∧ xs.length + zs.length ≤ sizeLine ∧ ∀ p, H p = none → Q (.ref p) (upd H p (.lst (xs ++ zs)))
theorem op_catS : OpR X (binaryOp .Add) rCatS := by
  intro pins s σ H x y v u Q I rx ry h
  obtain ⟨l, b, xs, zs, rfl, rfl, hH, hB, hz, q⟩ := h
  cases rx
  cases ry
  obtain ⟨z1, its, n1, r, e1⟩ := hH.ok I.hok
  obtain ⟨z2, its2, n2, r2, e2⟩ := hB.ok I.hok
  have k1 := r.length
  have k2 := r2.length
  refine PySem.P.add_list e1 e2 ?a ?b
  case b => rw [List.size_toArray, List.size_toArray]; omega
  have ea : its.toArray ++ its2.toArray = (its ++ its2).toArray := by simp
  rw [ea]
  exact ⟨.ref _, _, I.lnew (t' := s.toks) (r.append r2) (by rw [List.length_append]; omega), rfl, q _ I.fresh⟩
def oCatL : DO2 := fun a b μ P => ∃ xs ys, a = .dat (.list xs) ∧ b = .dat (.list ys) ∧ xs.length + ys.length ≤ sizeLine ∧ P (.dat (.list (xs ++ ys))) μ
theorem so_catL : SO2 K rCatS oCatL := fun x y H Q a b μ P hm rx ry ⟨xs, ys, e1, e2, hz, p⟩ c => by
  subst e1 e2
  obtain ⟨p1, v1, rfl, h1, a1⟩ := dp_list rx
  obtain ⟨p2, v2, rfl, h2, a2⟩ := dp_list ry
  refine ⟨p1, p2, v1, v2, rfl, rfl, rd_mono (hid_same H μ) h1, rd_mono (hid_same H μ) h2, by rw [dpAll_len a1, dpAll_len a2]; exact hz, fun q n => c.new hm n (rel_lst hm n (dpAll_append a1 a2)) p⟩
def oCatT : DO2 := fun a b μ P => ∃ xs ys, a = .dat (.tuple xs) ∧ b = .dat (.tuple ys) ∧ xs.length + ys.length ≤ sizeLine ∧ P (.dat (.tuple (xs ++ ys))) μ
theorem so_catT : SO2 K (rCatA K) oCatT := fun x y H Q a b μ P hm rx ry ⟨xs, ys, e1, e2, hz, p⟩ c => by
  subst e1 e2
  have rx' := rx
  have ry' := ry
  obtain ⟨p1, v1, rfl, h1, a1⟩ := dp_tuple rx
  obtain ⟨p2, v2, rfl, h2, a2⟩ := dp_tuple ry
  have l1 := dpAll_len a1
  have l2 := dpAll_len a2
  refine ⟨p1, p2, v1, v2, rfl, rfl, (.inl (rd_mono (hid_same H μ) h1)), (.inl (rd_mono (hid_same H μ) h2)), by rw [l1, l2]; exact hz, fun e => ?_, fun _ e => ?_, fun _ _ q n => c.new hm n (rel_tup hm n (dpAll_append a1 a2)) p⟩
  · subst e
    cases xs with
    | nil => exact c.here hm ry' p
    | cons _ _ => simp at l1
  · subst e
    cases ys with
    | nil => rw [List.append_nil] at p; exact c.here hm rx' p
    | cons _ _ => simp at l2
/-! x in a tuple of data -/
def rInT (K : PySem.W.Frag) (neg : Bool) : R2 := fun x y H Q => ∃ d ds, Dp K H x d ∧ Dp K H y (.tuple ds) ∧ SeqAt.shaped d = true ∧ SeqAt.shaped (.list ds) = true ∧ Q (.bl (if neg = true then !ds.any fun z => PyData.eqv z d else ds.any fun z => PyData.eqv z d)) H
theorem op_inT (hu : X.A.units + 65 < cLine) : OpR X (compareOp .In) (rInT X.K false) := by
  intro pins s σ H x y v u Q I rx ry h
  obtain ⟨d, ds, hd, he, sd, se, q⟩ := h
  obtain ⟨as, r1⟩ := Dp.reads I d x v hd rx
  obtain ⟨bs, r2⟩ := Dp.reads I (.tuple ds) y u he ry
  exact SeqAt.in_tuple_reads r2 r1 (SeqAt.canLay_of_shaped se) (SeqAt.canLay_of_shaped sd) (room_in_shaped sd hu) ⟨.bl _, H, I, rfl, q⟩
theorem op_notInT (hu : X.A.units + 65 < cLine) : OpR X (compareOp .NotIn) (rInT X.K true) := by
  intro pins s σ H x y v u Q I rx ry h
  obtain ⟨d, ds, hd, he, sd, se, q⟩ := h
  obtain ⟨as, r1⟩ := Dp.reads I d x v hd rx
  obtain ⟨bs, r2⟩ := Dp.reads I (.tuple ds) y u he ry
  exact SeqAt.notIn_tuple_reads r2 r1 (SeqAt.canLay_of_shaped se) (SeqAt.canLay_of_shaped sd) (room_in_shaped sd hu) ⟨.bl _, H, I, rfl, q⟩
def memD (ds : List PyData) (d : PyData) : Bool := ds.any fun z => PyData.eqv z d
def oInT (neg : Bool) : DO2 := fun a b μ P => ∃ d ds, a = .dat d ∧ b = .dat (.tuple ds) ∧ SeqAt.shaped d = true ∧ SeqAt.shaped (.list ds) = true ∧ P (.dat (.bool (if neg = true then !memD ds d else memD ds d))) μ
theorem so_inT {neg : Bool} : SO2 K (rInT K neg) (oInT neg) := fun x y H Q a b μ P hm rx ry ⟨d, ds, e1, e2, s1, s2, p⟩ c => by
  subst e1 e2
  exact ⟨d, ds, dp_mono (hid_same H μ) (dp_up rx), dp_mono (hid_same H μ) (dp_up ry), s1, s2, c.here hm (rB _) p⟩
/-! ### calls -/
theorem relAs1 {H : Hp} {vs : List V} {a : AV} (h : RelAs K H vs [a]) : ∃ v, vs = [v] ∧ RelA K H v a := by
  cases h with
  | cons r t => cases t; exact ⟨_, rfl, r⟩
theorem relAs2 {H : Hp} {vs : List V} {a b : AV} (h : RelAs K H vs [a, b]) : ∃ v w, vs = [v, w] ∧ RelA K H v a ∧ RelA K H w b := by
  cases h with
  | cons r t =>
    obtain ⟨w, rfl, r2⟩ := relAs1 t
    exact ⟨_, _, rfl, r, r2⟩
/-- one argument -/
def oA1 (d : DO1) : DOs := fun as μ P => ∃ a, as = [a] ∧ d a μ P
def oA2 (d : DO2) : DOs := fun as μ P => ∃ a b, as = [a, b] ∧ d a b μ P
theorem so_A1 {r : List V → Hp → VK → Prop} {d : DO1} (h : SO1 K (fun x H Q => r [x] H Q) d) : SOs K r (oA1 d) := fun xs H Q as μ P hm rx ⟨a, e, m⟩ c => by
  subst e
  obtain ⟨v, rfl, rv⟩ := relAs1 rx
  exact h v H Q a μ P hm rv m c
theorem so_A2 {r : List V → Hp → VK → Prop} {d : DO2} (h : SO2 K (fun x y H Q => r [x, y] H Q) d) : SOs K r (oA2 d) := fun xs H Q as μ P hm rx ⟨a, b, e, m⟩ c => by
  subst e
  obtain ⟨v, w, rfl, rv, rw'⟩ := relAs2 rx
  exact h v w H Q a b μ P hm rv rw' m c
def tyN : PyData → String
  | .none => "NoneType"
  | .bool _ => "bool"
  | .int _ => "int"
  | .str _ => "str"
  | .list _ => "list"
  | .tuple _ => "tuple"
  | .dict _ => "dict"
theorem ty_of {H : Hp} {v : V} {d : PyData} (h : Dp K H v d) : TyX K H v (.type (tyN d)) := by
  cases h with
  | non => exact .base .non
  | bl b => exact .base (.bl b)
  | int i => exact .base (.int i)
  | str s => exact .base (.str s)
  | lst hs _ =>
    rcases hs with (e | ⟨o, e⟩) | ⟨o, its, n, e, c, _⟩
    · exact .base (.lst e)
    · exact .base (.frz e)
    · exact .kList e c
  | tup hs _ =>
    rcases hs with (e | ⟨o, e⟩) | ⟨o, its, n, e, c, _⟩
    · exact .base (.tup e)
    · exact .fTuple e
    · exact .kTuple e c
/-- isinstance(x, T) -/
def oIsi (T : String) (f : PyData → Bool) : DOs := fun as μ P => ∃ d, as = [.dat d, .cls T] ∧ P (.dat (.bool (f d))) μ
theorem so_isi {T : String} {f : PyData → Bool} (hk : ∀ e : PyData, kitB (tyN e) T = some (f e)) : SOs K (rIsi K) (oIsi T f) := fun xs H Q as μ P hm rx ⟨d, e, p⟩ c => by
  subst e
  obtain ⟨v, w, rfl, rv, rw'⟩ := relAs2 rx
  cases (show w = .ty T from rw')
  exact ⟨v, .ty T, .type (tyN d), .type T, f d, rfl, .ty T, ty_of (dp_mono (hid_same H μ) (dp_up rv)), kit_ty (hk d), c.here hm (rB _) p⟩
def isInt : PyData → Bool
  | .int _ => true
  | .bool _ => true
  | _ => false
def isBool : PyData → Bool
  | .bool _ => true
  | _ => false
def isStr : PyData → Bool
  | .str _ => true
  | _ => false
def isTup : PyData → Bool
  | .tuple _ => true
  | _ => false
def isLst : PyData → Bool
  | .list _ => true
  | _ => false
theorem k_int : ∀ e : PyData, kitB (tyN e) "int" = some (isInt e) := fun e => by cases e <;> simp only [tyN, isInt, isBool, isStr, isTup, isLst] <;> decide +kernel
theorem k_bool : ∀ e : PyData, kitB (tyN e) "bool" = some (isBool e) := fun e => by cases e <;> simp only [tyN, isInt, isBool, isStr, isTup, isLst] <;> decide +kernel
theorem k_str : ∀ e : PyData, kitB (tyN e) "str" = some (isStr e) := fun e => by cases e <;> simp only [tyN, isInt, isBool, isStr, isTup, isLst] <;> decide +kernel
theorem k_tup : ∀ e : PyData, kitB (tyN e) "tuple" = some (isTup e) := fun e => by cases e <;> simp only [tyN, isInt, isBool, isStr, isTup, isLst] <;> decide +kernel
theorem k_lst : ∀ e : PyData, kitB (tyN e) "list" = some (isLst e) := fun e => by cases e <;> simp only [tyN, isInt, isBool, isStr, isTup, isLst] <;> decide +kernel
/-- all of a list of truths -/
def oAll : DO1 := fun a μ P => ∃ bs : List Bool, a = .dat (.list (bs.map PyData.bool)) ∧ P (.dat (.bool (bs.all id))) μ
theorem bls {H : Hp} : ∀ {xs : List V} {bs : List Bool}, DpAll K0 H xs (bs.map PyData.bool) → xs = bs.map V.bl
  | _, [], h => by cases h; rfl
  | _, b :: bs, h => by
    cases h with
    | cons a t => cases a; rw [bls t]; rfl
theorem ints_of {H : Hp} : ∀ {xs : List V} {bs : List Int}, DpAll K0 H xs (bs.map PyData.int) → xs = bs.map V.int
  | _, [], h => by cases h; rfl
  | _, b :: bs, h => by
    cases h with
    | cons a t => cases a; rw [ints_of t]; rfl
theorem strs_of {H : Hp} : ∀ {xs : List V} {bs : List Str}, DpAll K0 H xs (bs.map PyData.str) → xs = bs.map V.str
  | _, [], h => by cases h; rfl
  | _, b :: bs, h => by
    cases h with
    | cons a t => cases a; rw [strs_of t]; rfl
theorem of_strs {H : Hp} : ∀ bs : List Str, DpAll K0 H (bs.map V.str) (bs.map PyData.str)
  | [] => .nil
  | b :: bs => .cons (.str b) (of_strs bs)
theorem of_ints {H : Hp} : ∀ bs : List Int, DpAll K0 H (bs.map V.int) (bs.map PyData.int)
  | [] => .nil
  | b :: bs => .cons (.int b) (of_ints bs)
theorem so_all : SO1 K (fun x H Q => rAll K [x] H Q) oAll := fun x H Q a μ P hm rx ⟨bs, e1, p⟩ c => by
  subst e1
  obtain ⟨p1, v1, rfl, h1, a1⟩ := dp_list rx
  have e := bls a1
  subst e
  exact ⟨p1, bs, rfl, (.inl (rd_mono (hid_same H μ) h1)), c.here hm (rB _) p⟩
def LenD : AV → Mu → Nat → Prop
  | .dat (.str s), _, n => s.length ≤ sizeLine ∧ n = s.length
  | .dat (.list ds), _, n => n = ds.length
  | .dat (.tuple ds), _, n => n = ds.length
  | .mut p, μ, n => ∃ as, μ p = some (.lst as) ∧ n = as.length
  | _, _, _ => False
def oLen : DO1 := fun a μ P => ∃ n : Nat, LenD a μ n ∧ P (.dat (.int n)) μ
theorem so_len : SO1 K (fun x H Q => ∃ y n, [x] = [y] ∧ LenV K y H n ∧ Q (.int n) H) oLen := fun x H Q a μ P hm rx ⟨n, e1, p⟩ c => by
  refine ⟨x, n, rfl, ?_, c.here hm (rI _) p⟩
  cases a with
  | dat d =>
    cases d <;> try exact e1.elim
    · have e := dp_str rx
      subst e
      exact e1
    · obtain ⟨p1, v1, rfl, h1, a1⟩ := dp_list rx
      exact .inl ⟨v1, (.inl (rd_mono (hid_same H μ) h1)), by rw [dpAll_len a1]; exact e1⟩
    · obtain ⟨p1, v1, rfl, h1, a1⟩ := dp_tuple rx
      exact .inr ⟨v1, (.inl (rd_mono (hid_same H μ) h1)), by rw [dpAll_len a1]; exact e1⟩
  | «mut» q =>
    obtain ⟨as, h1, h2⟩ := e1
    cases (show x = .ref q from rx)
    obtain ⟨xs, e2, r⟩ := hm.lst h1
    exact .inl ⟨xs, .inl (.inl e2), by rw [paired_len r]; exact h2⟩
  | cls _ => exact e1.elim
  | raw _ => exact e1.elim
def oAbs : DO1 := fun a μ P => ∃ i : Int, a = .dat (.int i) ∧ P (.dat (.int (if i < 0 then -i else i))) μ
theorem so_abs : SO1 K (fun x H Q => ∃ i, [x] = [V.int i] ∧ Q (.int (if i < 0 then -i else i)) H) oAbs := fun x H Q a μ P hm rx ⟨i, e1, p⟩ c => by
  subst e1
  have e := dp_int rx
  subst e
  exact ⟨i, rfl, c.here hm (rI _) p⟩
def oInt : DO1 := fun a μ P => (∃ i : Int, a = .dat (.int i) ∧ P (.dat (.int i)) μ) ∨ ∃ k : Bool, a = .dat (.bool k) ∧ P (.dat (.int (if k then 1 else 0))) μ
theorem so_int : SO1 K (fun x H Q => (∃ i, [x] = [V.int i] ∧ Q (.int i) H) ∨ ∃ k, [x] = [V.bl k] ∧ Q (.int (if k then 1 else 0)) H) oInt := fun x H Q a μ P hm rx h c => by
  rcases h with ⟨i, e1, p⟩ | ⟨i, e1, p⟩
  · subst e1
    have e := dp_int rx
    subst e
    exact .inl ⟨i, rfl, c.here hm (rI _) p⟩
  · subst e1
    have e := dp_bl rx
    subst e
    exact .inr ⟨i, rfl, c.here hm (rI _) p⟩
def oMax : DO2 := fun a b μ P => ∃ i j : Int, a = .dat (.int i) ∧ b = .dat (.int j) ∧ P (.dat (.int (if j > i then j else i))) μ
def oMin : DO2 := fun a b μ P => ∃ i j : Int, a = .dat (.int i) ∧ b = .dat (.int j) ∧ P (.dat (.int (if j < i then j else i))) μ
theorem so_max : SO2 K (fun x y H Q => ∃ i j, [x, y] = [V.int i, V.int j] ∧ Q (.int (if j > i then j else i)) H) oMax := fun x y H Q a b μ P hm rx ry ⟨i, j, e1, e2, p⟩ c => by
  subst e1 e2
  exact ⟨i, j, by rw [dp_int rx, dp_int ry], c.here hm (rI _) p⟩
theorem so_min : SO2 K (fun x y H Q => ∃ i j, [x, y] = [V.int i, V.int j] ∧ Q (.int (if j < i then j else i)) H) oMin := fun x y H Q a b μ P hm rx ry ⟨i, j, e1, e2, p⟩ c => by
  subst e1 e2
  exact ⟨i, j, by rw [dp_int rx, dp_int ry], c.here hm (rI _) p⟩
def oStrI : DO1 := fun a μ P => ∃ i : Int, a = .dat (.int i) ∧ i.natAbs.log2 < 1920 ∧ P (.dat (.str (toString i))) μ
theorem so_strI : SO1 K (fun x H Q => ∃ i, [x] = [V.int i] ∧ i.natAbs.log2 < 1920 ∧ Q (.str (toString i)) H) oStrI := fun x H Q a μ P hm rx ⟨i, e1, hz, p⟩ c => by
  subst e1
  have e := dp_int rx
  subst e
  exact ⟨i, rfl, hz, c.here hm (rS _) p⟩
/-- sorted of texts -/
def oSortS : DO1 := fun a μ P => ∃ xs : List Str, a = .dat (.list (xs.map PyData.str)) ∧ xs.length < 64 ∧ ∀ ys : List Str, ys.Perm xs → sortedS ys = true → P (.dat (.list (ys.map PyData.str))) μ
theorem so_sortS : SO1 K (fun x H Q => rSortedS K [x] H Q) oSortS := fun x H Q a μ P hm rx ⟨xs, e1, hz, p⟩ c => by
  subst e1
  obtain ⟨p1, v1, rfl, h1, a1⟩ := dp_list rx
  have e := strs_of a1
  subst e
  exact ⟨p1, xs, rfl, (.inl (rd_mono (hid_same H μ) h1)), hz, fun ys q hp hs n => c.new hm n (rel_lst hm n (of_strs ys)) (p ys hp hs)⟩
/-- the items of a list or tuple -/
def itemsD : PyData → Option (List PyData)
  | .list ds => some ds
  | .tuple ds => some ds
  | _ => none
theorem sq_items {H : Hp} {μ : Mu} {v : V} {d : PyData} {ds : List PyData} (r : RelA K (hid H μ) v (.dat d)) (e : itemsD d = some ds) : ∃ p xs, v = .ref p ∧ (SqL K H p xs ∨ SqT K H p xs) ∧ DpAll K0 (hid H μ) xs ds := by
  cases d <;> simp only [itemsD, Option.some.injEq, reduceCtorEq] at e <;> subst e
  · obtain ⟨p1, v1, rfl, h1, a1⟩ := dp_list r
    exact ⟨p1, v1, rfl, .inl ((.inl (rd_mono (hid_same H μ) h1))), a1⟩
  · obtain ⟨p1, v1, rfl, h1, a1⟩ := dp_tuple r
    exact ⟨p1, v1, rfl, .inr ((.inl (rd_mono (hid_same H μ) h1))), a1⟩
/-- list(x): data; or a cell -/
def oList : DO1 := fun a μ P => ∃ d ds, a = .dat d ∧ itemsD d = some ds ∧ P (.dat (.list ds)) μ
def oListM : DO1 := fun a μ P => ∃ d ds, a = .dat d ∧ itemsD d = some ds ∧ ∀ p, μ p = none → P (.mut p) (mset μ p (some (.lst (ds.map AV.dat))))
theorem so_list : SO1 K (fun x H Q => ∃ p ys, [x] = [V.ref p] ∧ (SqL K H p ys ∨ SqT K H p ys) ∧ ∀ l, H l = none → Q (.ref l) (upd H l (.lst ys))) oList := fun x H Q a μ P hm rx ⟨d, ds, e1, e2, p⟩ c => by
  subst e1
  obtain ⟨q, xs, rfl, h1, a1⟩ := sq_items rx e2
  exact ⟨q, xs, rfl, h1, fun l n => c.new hm n (rel_lst hm n a1) p⟩
theorem Cont.cell {H : Hp} {μ : Mu} {P : DV} {Q : VK} (c : Cont K H μ P Q) (hm : HM K H μ) {p : Addr} (n : H p = none) {xs : List V} {as : List AV} (r : RelAs K (hid H μ) xs as) (q : P (.mut p) (mset μ p (some (.lst as)))) : Q (.ref p) (upd H p (.lst xs)) := by
  have hp : hid H μ p = none := by rw [hid_none (hm.ne n)]; exact n
  refine c _ _ (.mut p) (mset μ p (some (.lst as))) ?_ (hm.store hp r) rfl q
  rw [hid_store hp]
  exact Same.refl _
theorem so_listM : SO1 K (fun x H Q => ∃ p ys, [x] = [V.ref p] ∧ (SqL K H p ys ∨ SqT K H p ys) ∧ ∀ l, H l = none → Q (.ref l) (upd H l (.lst ys))) oListM := fun x H Q a μ P hm rx ⟨d, ds, e1, e2, p⟩ c => by
  subst e1
  obtain ⟨q, xs, rfl, h1, a1⟩ := sq_items rx e2
  exact ⟨q, xs, rfl, h1, fun l n => c.cell hm n (relAs_dat.mp a1) (p l (hm.ne n))⟩
/-- tuple(x), x data, or a cell -/
def oTuple : DO1 := fun a μ P => (∃ d ds, a = .dat d ∧ itemsD d = some ds ∧ P (.dat (.tuple ds)) μ) ∨ ∃ q ds, a = .mut q ∧ μ q = some (.lst (ds.map AV.dat)) ∧ P (.dat (.tuple ds)) μ
theorem so_tuple : SO1 K (fun x H Q => ∃ p ys, [x] = [V.ref p] ∧ ((SqL K H p ys ∧ ∀ l, H l = none → Q (.ref l) (upd H l (.tup ys))) ∨ (SqT K H p ys ∧ Q (.ref p) H))) oTuple := fun x H Q a μ P hm rx h c => by
  rcases h with ⟨d, ds, e1, e2, p⟩ | ⟨q, ds, e1, e2, p⟩
  · subst e1
    cases d <;> simp only [itemsD, Option.some.injEq, reduceCtorEq] at e2 <;> subst e2
    · obtain ⟨p1, v1, rfl, h1, a1⟩ := dp_list rx
      exact ⟨p1, v1, rfl, .inl ⟨(.inl (rd_mono (hid_same H μ) h1)), fun l n => c.new hm n (rel_tup hm n a1) p⟩⟩
    · have rx' := rx
      obtain ⟨p1, v1, rfl, h1, a1⟩ := dp_tuple rx
      exact ⟨p1, v1, rfl, .inr ⟨(.inl (rd_mono (hid_same H μ) h1)), c.here hm rx' p⟩⟩
  · subst e1
    cases (show x = .ref q from rx)
    obtain ⟨xs, e3, r⟩ := hm.lst e2
    exact ⟨q, xs, rfl, .inl ⟨.inl (.inl e3), fun l n => c.new hm n (rel_tup hm n (relAs_dat.mpr r)) p⟩⟩
/-- repr of data -/
def rRepr (K : PySem.W.Frag) : List V → Hp → VK → Prop := fun xs H Q => ∃ v d, xs = [v] ∧ Dp K H v d ∧ d.showable = true ∧ d.hasDict = false ∧ d.depth ≤ 60 ∧ d.shown.length ≤ sizeLine ∧ Q (.str d.shown) H
theorem call_repr (hg : X.A.guards = some []) (hu : X.A.units + 64 < cLine) : CallR X (.builtin "repr") (rRepr X.K) := by
  intro pins s σ H xs us Q I r h
  obtain ⟨v, d, rfl, hd, hs, hn, hp, hz, q⟩ := h
  obtain ⟨u, rfl, ru⟩ := vals1 r
  have fin : ∀ (h' : Heap) (tk : Nat) (t : Tok), (∀ b o, s.heap.get? b = some o → h'.get? b = some o) → EP X pins σ Q (.str d.shown t) { s with heap := h', toks := tk } := fun h' tk t hk =>
    ⟨.str d.shown, H, I.kept (t' := tk) hk, ⟨t, rfl⟩, q⟩
  cases hd with
  | non =>
    cases (show u = Value.none from ru)
    exact PySem.P.repr_of_none (by have e := fin s.heap (s.toks + 1) s.toks (fun _ _ e => e); rw [PyData.shown_none] at e; exact e)
  | bl b =>
    cases (show u = Value.bool b from ru)
    exact PySem.P.repr_of_bool (by have e := fin s.heap (s.toks + 1) s.toks (fun _ _ e => e); rw [PyData.shown_bool] at e; exact e)
  | int i =>
    obtain ⟨t, rfl⟩ := ru
    exact PySem.P.repr_of_int (by simpa only [PyData.showable, decide_eq_true_eq] using hs) (by have e := fin s.heap (s.toks + 1) s.toks (fun _ _ e => e); rw [PyData.shown_int] at e; exact e)
  | str y =>
    obtain ⟨t, rfl⟩ := ru
    exact PySem.P.repr_of_str (by have e := fin s.heap (s.toks + 1) s.toks (fun _ _ e => e); rw [PyData.shown_str] at e; exact e) (by rw [PyData.shown_str] at hz; exact hz)
  | lst h1 h2 =>
    obtain ⟨as, rd⟩ := Dp.reads I _ _ _ (Dp.lst h1 h2) ru
    cases ru
    exact repr_of_reads' rd hs (PyData.noDict_hsm hn) hg (by omega) (fun _ _ e => e) (fun h' t tk hk => fin h' tk t hk) hz
  | tup h1 h2 =>
    obtain ⟨as, rd⟩ := Dp.reads I _ _ _ (Dp.tup h1 h2) ru
    cases ru
    exact repr_of_reads' rd hs (PyData.noDict_hsm hn) hg (by omega) (fun _ _ e => e) (fun h' t tk hk => fin h' tk t hk) hz
end
end DL

namespace DL
open PySem PySem.Spec PyProof.Rows L2 RZ
section
variable {X : Cx} {K : PySem.W.Frag} {a b e : Expr} {ta tb te : TE} {Ma Mb Me : DEx} {pos : Pos}
/-! ### subscripts -/
theorem atI_dp {H : Hp} {xs : List V} {ds : List PyData} {i : Int} {d : PyData} (r : DpAll K0 H xs ds) (h : atI ds i = some d) : ∃ v, atI xs i = some v ∧ Dp K0 H v d := by
  unfold atI at h ⊢
  rw [dpAll_len r]
  cases q : ixN ds.length i with
  | none => rw [q] at h; cases h
  | some j =>
    rw [q] at h
    exact dpAll_get r h
theorem atI_rel {H : Hp} {xs : List V} {as : List AV} {i : Int} {c : AV} (r : RelAs K H xs as) (h : atI as i = some c) : ∃ v, atI xs i = some v ∧ RelA K H v c := by
  unfold atI at h ⊢
  rw [paired_len r]
  cases q : ixN as.length i with
  | none => rw [q] at h; cases h
  | some j =>
    rw [q] at h
    exact paired_get r h
def ixD : AV → Mu → Int → AV → Prop
  | .dat (.list ds), _, i, r => ∃ d, r = .dat d ∧ atI ds i = some d
  | .dat (.tuple ds), _, i, r => ∃ d, r = .dat d ∧ atI ds i = some d
  | .dat (.str z), _, i, r => ∃ c, r = .dat (.str ⟨#[c]⟩) ∧ z.length ≤ sizeLine ∧ atI z.cps.toList i = some c
  | .mut p, μ, i, r => ∃ as, μ p = some (.lst as) ∧ atI as i = some r
  | _, _, _, _ => False
def oIx : DO2 := fun a b μ P => ∃ i r, b = .dat (.int i) ∧ ixD a μ i r ∧ P r μ
theorem so_ix : SO2 K (rIx K) oIx := fun x y H Q a b μ P hm rx ry ⟨i, r, e1, e2, p⟩ c => by
  subst e1
  have ey := dp_int ry
  subst ey
  cases a with
  | dat d =>
    cases d <;> try exact e2.elim
    · obtain ⟨d, rfl, hz, h⟩ := e2
      have ex := dp_str rx
      subst ex
      exact .inr (.inr ⟨_, i, d, rfl, rfl, hz, h, c.here hm (rS _) p⟩)
    · obtain ⟨d, rfl, h⟩ := e2
      obtain ⟨p1, v1, rfl, h1, a1⟩ := dp_list rx
      obtain ⟨v, hv, rv⟩ := atI_dp a1 h
      exact .inl ⟨p1, v1, i, v, rfl, rfl, .inl (rd_mono (hid_same H μ) h1), hv, c.here hm (a := .dat d) rv p⟩
    · obtain ⟨d, rfl, h⟩ := e2
      obtain ⟨p1, v1, rfl, h1, a1⟩ := dp_tuple rx
      obtain ⟨v, hv, rv⟩ := atI_dp a1 h
      exact .inr (.inl ⟨p1, v1, i, v, rfl, rfl, .inl (rd_mono (hid_same H μ) h1), hv, c.here hm (a := .dat d) rv p⟩)
  | «mut» q =>
    obtain ⟨as, h1, h⟩ := e2
    cases (show x = .ref q from rx)
    obtain ⟨xs, e2, r⟩ := hm.lst h1
    obtain ⟨v, hv, rv⟩ := atI_rel r h
    exact .inl ⟨q, xs, i, v, rfl, rfl, .inl (.inl e2), hv, c.here hm rv p⟩
  | cls _ => exact e2.elim
  | raw _ => exact e2.elim
theorem de_ix (ha : DE X a ta Ma) (hb : DE X b tb Mb) (hs : PlainIx b) : DE X (.Subscript a b pos) (tOp (rIx X.K) ta tb) (mOp oIx Ma Mb) := ⟨pe_ix ix_seq ha.pe hb.pe hs, se_op so_ix ha.se hb.se⟩
/-! slices -/
abbrev DOx := Dl → Mu → (Option Int → Mu → Prop) → Prop
def SO' (K : PySem.W.Frag) (t : TO) (M : DOx) : Prop := ∀ σ H (Q : Option Int → Hp → Prop) δ μ P, Rel K (hid H μ) σ δ → HM K H μ → M δ μ P → (∀ o H' μ', Same (hid H μ) (hid H' μ') → HM K H' μ' → P o μ' → Q o H') → t σ H Q
structure DP (X : Cx) (e : Option Expr) (t : TO) (M : DOx) : Prop where
  po : PO X e t
  so : SO' X.K t M
def mPart (Me : DEx) : DOx := fun δ μ P => Me δ μ fun a μ1 => ∃ i, a = .dat (.int i) ∧ P (some i) μ1
theorem dp_none : DP X none tNoPart (fun _ μ P => P none μ) := ⟨po_none, fun σ H Q δ μ P R hm m c => c none H μ (Same.refl _) hm m⟩
theorem dp_some (h : DE X e te Me) : DP X (some e) (tPart te) (mPart Me) := ⟨po_some h.pe, fun σ H Q δ μ P R hm m c => h.se σ H _ δ μ _ R hm m fun v H1 a μ1 e1 hm1 r1 ⟨i, ea, m1⟩ => by
  subst ea
  exact ⟨i, dp_int r1, c _ H1 μ1 e1 hm1 m1⟩⟩
def cutL {α : Type} (xs : List α) (lo hi : Option Int) : List α := (xs.drop (HT.sIx xs.length 0 lo)).take (HT.sIx xs.length xs.length hi - HT.sIx xs.length 0 lo)
theorem cut_dp {H : Hp} {xs : List V} {ds : List PyData} (r : DpAll K0 H xs ds) (lo hi : Option Int) : DpAll K0 H (cutV xs lo hi) (cutL ds lo hi) := by
  unfold cutV cutL
  rw [dpAll_len r]
  exact dpAll_take _ (dpAll_drop _ r)
theorem cut_map {α β : Type} (f : α → β) (xs : List α) (lo hi : Option Int) : cutL (xs.map f) lo hi = (cutL xs lo hi).map f := by
  unfold cutL
  rw [List.length_map, List.map_take, List.map_drop]
def oSl (lo hi : Option Int) : DO1 := fun a μ P => match a with
  | .dat (.list ds) => P (.dat (.list (cutL ds lo hi))) μ
  | .dat (.tuple ds) => P (.dat (.tuple (cutL ds lo hi))) μ
  | .dat (.str z) => z.length ≤ sizeLine ∧ P (.dat (.str (cutS z lo hi))) μ
  | .raw ns => P (.dat (.list ((cutL ns lo hi).map PyData.int))) μ
  | _ => False
abbrev rSl (K : PySem.W.Frag) : V → Option Int → Option Int → Hp → VK → Prop := fun x lo hi H Q => rSlL K x lo hi H Q ∨ (rSlA K x lo hi H Q ∨ rSlS x lo hi H Q)
theorem sl_any : SlR X (rSl X.K) := SlR.or sl_list (SlR.or sl_tupA sl_str)
theorem so_sl {lo hi : Option Int} : SO1 K (fun x H Q => rSl K x lo hi H Q) (oSl lo hi) := fun x H Q a μ P hm rx h c => by
  cases a with
  | dat d =>
    cases d with
    | list ds =>
      have p : P (.dat (.list (cutL ds lo hi))) μ := h
      obtain ⟨p1, v1, rfl, h1, a1⟩ := dp_list rx
      exact .inl ⟨p1, v1, rfl, .inl (rd_mono (hid_same H μ) h1), fun q n => c.new hm n (rel_lst hm n (cut_dp a1 lo hi)) p⟩
    | tuple ds =>
      have p : P (.dat (.tuple (cutL ds lo hi))) μ := h
      have rx' := rx
      obtain ⟨p1, v1, rfl, h1, a1⟩ := dp_tuple rx
      refine .inr (.inl ⟨p1, v1, rfl, .inl (rd_mono (hid_same H μ) h1), fun ⟨w1, w2⟩ => ?_, fun _ q n => c.new hm n (rel_tup hm n (cut_dp a1 lo hi)) p⟩)
      have e : cutL ds lo hi = ds := by
        unfold cutL
        rw [← dpAll_len a1, w1, w2, dpAll_len a1]
        simp
      rw [e] at p
      exact c.here hm rx' p
    | str z =>
      obtain ⟨hz, p⟩ : z.length ≤ sizeLine ∧ P (.dat (.str (cutS z lo hi))) μ := h
      have ex := dp_str rx
      subst ex
      exact .inr (.inr ⟨z, rfl, hz, c.here hm (rS _) p⟩)
    | _ => exact h.elim
  | raw ns =>
    have p : P (.dat (.list ((cutL ns lo hi).map PyData.int))) μ := h
    obtain ⟨p1, rfl, h1⟩ := rx
    refine .inl ⟨p1, _, rfl, (hid_same H μ).seq h1, fun q n => c.new hm n (rel_lst hm n ?_) p⟩
    have e : cutV (ns.map V.int) lo hi = (cutL ns lo hi).map V.int := cut_map V.int ns lo hi
    rw [e]
    exact of_ints _
  | _ => exact h.elim
def mSl (Me : DEx) (Ml Mh : DOx) : DEx := fun δ μ P => Me δ μ fun a μ1 => Ml δ μ1 fun lo μ2 => Mh δ μ2 fun hi μ3 => oSl lo hi a μ3 P
theorem de_slice {lo hi : Option Expr} {tl th : TO} {Ml Mh : DOx} {p2 : Pos} (he : DE X e te Me) (hl : DP X lo tl Ml) (hh : DP X hi th Mh) : DE X (.Subscript e (.Slice lo hi none p2) pos) (tSl (rSl X.K) te tl th) (mSl Me Ml Mh) :=
  ⟨pe_slice sl_any he.pe hl.po hh.po, fun σ H Q δ μ P R hm m c => he.se σ H _ δ μ _ R hm m fun x H1 av μ1 e1 hm1 r1 m1 => hl.so σ H1 _ δ μ1 _ (R.mono e1) hm1 m1 fun l H2 μ2 e2 hm2 m2 =>
    hh.so σ H2 _ δ μ2 _ (R.mono (e1.trans e2)) hm2 m2 fun h H3 μ3 e3 hm3 m3 => so_sl x H3 Q av μ3 P hm3 (relA_mono (e2.trans e3) r1) m3 (c.from ((e1.trans e2).trans e3))⟩
/-! ### methods -/
variable {es : List Expr} {t : TA} {MA : DAx} {o : Expr} {to : TE} {Mo : DEx} {apos cpos : Pos}
def mAppend (Mo : DEx) (MA : DAx) : DEx := fun δ μ P => Mo δ μ fun a μ1 => ∃ p as0, a = .mut p ∧ μ1 p = some (.lst as0) ∧ MA δ μ1 fun xs μ2 => ∃ as x, xs = [x] ∧ μ2 p = some (.lst as) ∧ as.length < sizeLine ∧ P (.dat .none) (mset μ2 p (some (.lst (as ++ [x]))))
theorem de_append (h : PE X (.Call (.Attribute o "append" apos) (e :: es) [] cpos) (tBM X.K "list" rAppend to t)) (ho : SE X.K to Mo) (ha : SA X.K t MA) : DE X (.Call (.Attribute o "append" apos) (e :: es) [] cpos) (tBM X.K "list" rAppend to t) (mAppend Mo MA) :=
  ⟨h, fun σ H Q δ μ P R hm m c => ho σ H _ δ μ _ R hm m fun x H1 av μ1 e1 hm1 r1 ⟨p, as0, ea, h0, m1⟩ => by
    subst ea
    cases (show x = .ref p from r1)
    obtain ⟨ys, ey, _⟩ := hm1.lst h0
    refine ⟨.inl ⟨rfl, ys, .inl (.inl ey)⟩, ha σ H1 _ δ μ1 _ (R.mono e1) hm1 m1 fun xs H2 bs μ2 e2 hm2 r2 ⟨as, z, eb, h2, hz, m2⟩ => ?_⟩
    subst eb
    obtain ⟨w, rfl, rw'⟩ := relAs1 r2
    obtain ⟨zs, ez, rz⟩ := hm2.lst h2
    have hp := hid_cell (H := H2) h2
    refine ⟨p, zs, w, rfl, rfl, ez, by rw [paired_len rz]; exact hz, c _ _ (.dat .none) _ ?_ (hm2.store hp (paired_append rz (.cons rw' .nil))) rN m2⟩
    rw [hid_store hp]
    exact e1.trans e2⟩
def mPop (Mo : DEx) (MA : DAx) : DEx := fun δ μ P => Mo δ μ fun a μ1 => ∃ p as0, a = .mut p ∧ μ1 p = some (.lst as0) ∧ MA δ μ1 fun xs μ2 => ∃ (as : List AV) (i : Nat) (x : AV), xs = [.dat (.int i)] ∧ μ2 p = some (.lst as) ∧ as.length ≤ sizeLine ∧ as[i]? = some x ∧ P x (mset μ2 p (some (.lst (as.eraseIdx i))))
theorem line62 : (sizeLine : Int) < 2 ^ 62 := by rw [sizeLine_eq]; decide
theorem de_pop (h : PE X (.Call (.Attribute o "pop" apos) (e :: es) [] cpos) (tBM X.K "list" rPopAt to t)) (ho : SE X.K to Mo) (ha : SA X.K t MA) : DE X (.Call (.Attribute o "pop" apos) (e :: es) [] cpos) (tBM X.K "list" rPopAt to t) (mPop Mo MA) :=
  ⟨h, fun σ H Q δ μ P R hm m c => ho σ H _ δ μ _ R hm m fun x H1 av μ1 e1 hm1 r1 ⟨p, as0, ea, h0, m1⟩ => by
    subst ea
    cases (show x = .ref p from r1)
    obtain ⟨ys, ey, _⟩ := hm1.lst h0
    refine ⟨.inl ⟨rfl, ys, .inl (.inl ey)⟩, ha σ H1 _ δ μ1 _ (R.mono e1) hm1 m1 fun xs H2 bs μ2 e2 hm2 r2 ⟨as, i, z, eb, h2, hsz, hz, m2⟩ => ?_⟩
    subst eb
    obtain ⟨w, rfl, rw'⟩ := relAs1 r2
    have ew := dp_int rw'
    subst ew
    obtain ⟨zs, ez, rz⟩ := hm2.lst h2
    have hp := hid_cell (H := H2) h2
    obtain ⟨y, hy, ry⟩ := paired_get rz hz
    have hlt : i < zs.length := (List.getElem?_eq_some_iff.mp hy).1
    have hl := paired_len rz
    have h62 := line62
    refine ⟨p, zs, (i : Int), i, y, rfl, rfl, ez, by omega, by omega, ?_, hy, ?_⟩
    · unfold seqIndex?
      have q1 : ¬ ((i : Int) < 0) := by omega
      simp only [if_neg q1]
      have q2 : (decide (0 ≤ (i : Int)) && decide ((i : Int) < (zs.length : Int))) = true := by simp; omega
      rw [if_pos q2]
      simp
    · refine c _ _ z _ ?_ (hm2.store hp (paired_erase i rz)) (by rw [hid_store hp]; exact ry) m2
      rw [hid_store hp]
      exact e1.trans e2⟩
def oJoin : DO2 := fun a b μ P => ∃ (s : Str) (d : PyData) (ys : List Str), a = .dat (.str s) ∧ b = .dat d ∧ itemsD d = some (ys.map PyData.str) ∧ (ys.map (·.length)).sum + ys.length * s.length ≤ 16777216 ∧ P (.dat (.str (Txt.join s ys))) μ
abbrev tJoin (K : PySem.W.Frag) (to te : TE) : TE := (tM1 (fun x xs H Q => ∃ a p, ∃ ys : List Str, x = .str a ∧ xs = [.ref p] ∧ (SqL K H p (ys.map V.str) ∨ SqT K H p (ys.map V.str)) ∧
      (ys.map (·.length)).sum + ys.length * a.length ≤ 16777216 ∧ Q (.str (Txt.join a ys)) H) to te)
theorem de_join (h : PE X (.Call (.Attribute o "join" apos) [e] [] cpos) (tJoin X.K to te)) (ho : SE X.K to Mo) (he : SE X.K te Me) : DE X (.Call (.Attribute o "join" apos) [e] [] cpos) (tJoin X.K to te) (mOp oJoin (fun δ μ P => Mo δ μ fun x μ1 => (∃ s, x = .dat (.str s)) ∧ P x μ1) Me) :=
  ⟨h, fun σ H Q δ μ P R hm m c => ho σ H _ δ μ _ R hm m fun x H1 av μ1 e1 hm1 r1 ⟨⟨s, es⟩, m1⟩ => by
    subst es
    have ex := dp_str r1
    subst ex
    refine ⟨⟨s, rfl⟩, he σ H1 _ δ μ1 _ (R.mono e1) hm1 m1 fun y H2 bv μ2 e2 hm2 r2 ⟨s', d, ys, ea, eb, hi, hz, m2⟩ => ?_⟩
    cases ea
    subst eb
    obtain ⟨q, xs, rfl, hq, hx⟩ := sq_items r2 hi
    have e := strs_of hx
    subst e
    exact ⟨s, q, ys, rfl, rfl, hq, hz, (c.from (e1.trans e2)).here hm2 (rS _) m2⟩⟩
def oUpper : DO1 := fun a μ P => ∃ s : Str, a = .dat (.str s) ∧ s.length ≤ 5592405 ∧ P (.dat (.str (Txt.upper s))) μ
abbrev tUpper (to : TE) : TE := (tM0 (fun x xs H Q => ∃ a, x = .str a ∧ xs = [] ∧ a.length ≤ 5592405 ∧ Q (.str (Txt.upper a)) H) to)
theorem de_upper (h : PE X (.Call (.Attribute o "upper" apos) [] [] cpos) (tUpper to)) (ho : SE X.K to Mo) : DE X (.Call (.Attribute o "upper" apos) [] [] cpos) (tUpper to) (mUn oUpper Mo) :=
  ⟨h, fun σ H Q δ μ P R hm m c => ho σ H _ δ μ _ R hm m fun x H1 av μ1 e1 hm1 r1 ⟨s, ea, hz, m1⟩ => by
    subst ea
    have ex := dp_str r1
    subst ex
    exact ⟨⟨s, rfl⟩, s, rfl, rfl, hz, (c.from e1).here hm1 (rS _) m1⟩⟩
/-- isinstance(x, (T1, T2)), the tuple of classes laid just then -/
def oIsi2 (f g : PyData → Bool) : DO1 := fun a μ P => ∃ d, a = .dat d ∧ P (.dat (.bool (f d || g d))) μ
theorem kitAny2 {t : String} {c1 c2 : String} {x y : Bool} (h1 : kitB t c1 = some x) (h2 : kitB t c2 = some y) : PySem.W.kitAny K (.type t) [.type c1, .type c2] = some (x || y) := by
  cases x with
  | true => exact kitAny_cons (kit_ty h1) (fun z => by cases z) (fun _ => rfl)
  | false =>
    refine kitAny_cons (kit_ty h1) (fun _ => ?_) (fun z => by cases z)
    cases y with
    | true => exact kitAny_cons (kit_ty h2) (fun z => by cases z) (fun _ => rfl)
    | false => exact kitAny_cons (kit_ty h2) (fun _ => rfl) (fun z => by cases z)
abbrev tIsi2 (K : PySem.W.Frag) (te : TE) (c1 c2 : String) : TE := tCB (rIsiT K) (tCons te (tCons (tTup (tCons (tC (.ty c1)) (tCons (tC (.ty c2)) tNil))) tNil))
theorem de_isi2 {f g : PyData → Bool} {c1 c2 : String} (he : DE X e te Me) (k1 : ∀ d, kitB (tyN d) c1 = some (f d)) (k2 : ∀ d, kitB (tyN d) c2 = some (g d)) {w : Expr}
    (h : PE X w (tIsi2 X.K te c1 c2)) : DE X w (tIsi2 X.K te c1 c2) (mUn (oIsi2 f g) Me) :=
  ⟨h, fun σ H Q δ μ P R hm m c => he.se σ H _ δ μ _ R hm m fun x H1 av μ1 e1 hm1 r1 ⟨d, ea, m1⟩ => by
    subst ea
    refine ⟨by show 2 ≤ sizeLine; decide, fun p n => ?_⟩
    refine ⟨x, p, _, .type (tyN d), [.type c1, .type c2], f d || g d, rfl, upd_same, .cons (.ty c1) (.cons (.ty c2) .nil), ty_of (dp_mono ((hid_new hm1 n _).trans (hid_same _ μ1)) (dp_up r1)), kitAny2 (k1 d) (k2 d), ?_⟩
    exact c _ _ (.dat (.bool _)) μ1 (e1.trans (hid_new hm1 n _)) (hm1.new n _) (rB _) m1⟩
end
/-! ### targets -/
abbrev DGx := AV → Dl → Mu → (Dl → Mu → Prop) → Prop
def SG (K : PySem.W.Frag) (g : TG) (G : DGx) (vs : List Nat) : Prop := ∀ v σ H (Q : L2.St → Hp → Prop) a δ μ P, Rel K (hid H μ) σ δ → HM K H μ → RelA K (hid H μ) v a → G a δ μ P →
  (∀ σ' H' δ' μ', Same (hid H μ) (hid H' μ') → HM K H' μ' → Rel K (hid H' μ') σ' δ' → wipe σ' vs = wipe σ vs → P δ' μ' → Q σ' H') → g v σ H Q
def SGs (K : PySem.W.Frag) (g : TGs) (G : List AV → Dl → Mu → (Dl → Mu → Prop) → Prop) (vs : List Nat) : Prop := ∀ xs σ H (Q : L2.St → Hp → Prop) as δ μ P, Rel K (hid H μ) σ δ → HM K H μ → RelAs K (hid H μ) xs as → G as δ μ P →
  (∀ σ' H' δ' μ', Same (hid H μ) (hid H' μ') → HM K H' μ' → Rel K (hid H' μ') σ' δ' → wipe σ' vs = wipe σ vs → P δ' μ' → Q σ' H') → g xs σ H Q
structure DG (X : Cx) (tg : Expr) (g : TG) (G : DGx) (vs : List Nat) : Prop where
  pg : PG X tg g
  sg : SG X.K g G vs
structure DGs (X : Cx) (tg : List Expr) (g : TGs) (G : List AV → Dl → Mu → (Dl → Mu → Prop) → Prop) (vs : List Nat) : Prop where
  pgs : PGs X tg g
  sgs : SGs X.K g G vs
theorem wipe_set {σ : L2.St} {i : Nat} {x : Option V} : ∀ {vs : List Nat}, i ∈ vs → wipe (σ.set i x) vs = wipe σ vs
  | [], h => by simp at h
  | v :: vs, h => by
    unfold wipe
    by_cases e : i ∈ vs
    · rw [wipe_set e]
    · have ei : i = v := by
        rcases List.mem_cons.mp h with z | z
        · exact z
        · exact absurd z e
      subst ei
      have q : ∀ ws : List Nat, i ∉ ws → wipe (σ.set i x) ws = (wipe σ ws).set i x := by
        intro ws
        induction ws with
        | nil => intro _; rfl
        | cons w ws ih =>
          intro hw
          unfold wipe
          have hne : i ≠ w := fun z => hw (by rw [z]; exact List.mem_cons_self)
          rw [ih fun z => hw (List.mem_cons_of_mem _ z), List.set_comm _ _ hne]
      rw [q vs e, List.set_set]
section
variable {X : Cx} {K : PySem.W.Frag} {e : Expr} {es : List Expr} {te : TE} {Me : DEx} {pos : Pos} {vs : List Nat}
def mgName (i : Nat) : DGx := fun a δ μ P => P (δ.set i (some a)) μ
theorem dg_name {i : Nat} (h : PG X e (gName i)) (hi : i ∈ vs) : DG X e (gName i) (mgName i) vs := ⟨h, fun v σ H Q a δ μ P R hm r m c => c _ H _ μ (Same.refl _) hm (R.set i r) (wipe_set hi) m⟩
def mgNil : List AV → Dl → Mu → (Dl → Mu → Prop) → Prop := fun as δ μ P => match as with
  | [] => P δ μ
  | _ => False
theorem dgs_nil : DGs X [] gNil mgNil vs := ⟨pgs_nil, fun xs σ H Q as δ μ P R hm r m c => by
  cases as with
  | cons _ _ => exact m.elim
  | nil =>
  have m : P δ μ := m
  cases r
  exact ⟨rfl, c σ H δ μ (Same.refl _) hm R rfl m⟩⟩
def mgCons (G : DGx) (Gs : List AV → Dl → Mu → (Dl → Mu → Prop) → Prop) : List AV → Dl → Mu → (Dl → Mu → Prop) → Prop := fun as δ μ P => match as with
  | [] => False
  | a :: r => G a δ μ fun δ1 μ1 => Gs r δ1 μ1 P
theorem dgs_cons {g : TG} {gs : TGs} {G : DGx} {Gs} (h : DG X e g G vs) (h2 : DGs X es gs Gs vs) (hs : (assignEach (e :: es) X.env).map (·.2) = assign e X.env :: (assignEach es X.env).map (·.2) := by rfl) : DGs X (e :: es) (gCons g gs) (mgCons G Gs) vs :=
  ⟨pgs_cons h.pg h2.pgs hs, fun xs σ H Q as δ μ P R hm r m c => by
    cases as with
    | nil => exact m.elim
    | cons a ar =>
    have m : G a δ μ fun δ1 μ1 => Gs ar δ1 μ1 P := m
    cases r with
    | cons r1 rr =>
      exact ⟨_, _, rfl, h.sg _ σ H _ a δ μ _ R hm r1 m fun σ1 H1 δ1 μ1 e1 hm1 R1 w1 m1 => h2.sgs _ σ1 H1 Q ar δ1 μ1 P R1 hm1 (relAs_mono e1 rr) m1 fun σ2 H2 δ2 μ2 e2 hm2 R2 w2 m2 => c σ2 H2 δ2 μ2 (e1.trans e2) hm2 R2 (w2.trans w1) m2⟩⟩
def mgTup (n : Nat) (Gs : List AV → Dl → Mu → (Dl → Mu → Prop) → Prop) : DGx := fun a δ μ P => ∃ ds, a = .dat (.tuple ds) ∧ ds.length = n ∧ Gs (ds.map AV.dat) δ μ P
theorem dg_tup {K : PySem.W.Frag} {k : Nat} {gs : TGs} {Gs} {n : Nat} (hK : X.K = K) (hc : X.calm = true) (h : DGs X es gs Gs vs) (hn : (assignEach es X.env).length = n := by rfl) (hst : (assignEach es X.env).findIdx? (·.1) = none := by rfl) : DG X (.Tuple es k pos) (gTup K n gs) (mgTup n Gs) vs := by
  subst hK
  exact ⟨pg_tup hc h.pgs hn hst, fun v σ H Q a δ μ P R hm r ⟨ds, ea, hl, m⟩ c => by
    subst ea
    obtain ⟨p1, v1, rfl, h1, a1⟩ := dp_tuple r
    exact ⟨p1, v1, rfl, .inl (rd_mono (hid_same H μ) h1), by rw [dpAll_len a1]; exact hl, h.sgs v1 σ H Q _ δ μ P R hm (relAs_dat.mp a1) m c⟩⟩
/-- cells[k] = e: as a statement's target -/
def mgSub (Mo Mi : DEx) : DGx := fun a δ μ P => Mo δ μ fun o μ1 => ∃ p, o = .mut p ∧ Mi δ μ1 fun i μ2 => ∃ k as j, i = .dat (.int k) ∧ μ2 p = some (.lst as) ∧ ixN as.length k = some j ∧ P δ (mset μ2 p (some (.lst (as.set j a))))
theorem dg_sub {to ti : TE} {Mo Mi : DEx} (h : PG X e (gSub to ti rSetL)) (ho : SE X.K to Mo) (hi : SE X.K ti Mi) : DG X e (gSub to ti rSetL) (mgSub Mo Mi) vs :=
  ⟨h, fun v σ H Q a δ μ P R hm r m c => ho σ H _ δ μ _ R hm m fun x H1 av μ1 e1 hm1 r1 ⟨p, ea, m1⟩ => by
    subst ea
    cases (show x = .ref p from r1)
    refine hi σ H1 _ δ μ1 _ (R.mono e1) hm1 m1 fun y H2 bv μ2 e2 hm2 r2 ⟨k, as, j, eb, h2, hj, m2⟩ => ?_
    subst eb
    obtain ⟨zs, ez, rz⟩ := hm2.lst h2
    have hp := hid_cell (H := H2) h2
    refine ⟨p, zs, k, j, rfl, dp_int r2, ez, by rw [paired_len rz]; exact hj, ?_⟩
    have es : Same (hid H μ) (hid (upd H2 p (.lst (zs.set j v))) (mset μ2 p (some (.lst (as.set j a))))) := by
      rw [hid_store hp]
      exact e1.trans e2
    exact c σ _ δ _ es (hm2.store hp (paired_set (relA_mono (e1.trans e2) r) j rz)) (R.mono es) rfl m2⟩
/-! ### statements -/
structure DEnds where
  nx : Dl → Mu → Prop
  rt : DV
  bk : Dl → Mu → Prop := fun _ _ => False
  ct : Dl → Mu → Prop := fun _ _ => False
abbrev DSx := DEnds → Dl → Mu → Prop
def EO (K : PySem.W.Frag) (H : Hp) (μ : Mu) (p : Dl → Mu → Prop) (q : L2.St → Hp → Prop) : Prop := ∀ σ' H' δ' μ', Same (hid H μ) (hid H' μ') → HM K H' μ' → Rel K (hid H' μ') σ' δ' → p δ' μ' → q σ' H'
theorem EO.from {H H1 : Hp} {μ μ1 : Mu} {p : Dl → Mu → Prop} {q : L2.St → Hp → Prop} (c : EO K H μ p q) (e : Same (hid H μ) (hid H1 μ1)) : EO K H1 μ1 p q := fun σ' H' δ' μ' s => c σ' H' δ' μ' (e.trans s)
structure EOk (K : PySem.W.Frag) (H : Hp) (μ : Mu) (DD : DEnds) (D : Ends) : Prop where
  nx : EO K H μ DD.nx D.nx
  bk : EO K H μ DD.bk D.bk
  ct : EO K H μ DD.ct D.ct
  rt : Cont K H μ DD.rt D.rt
theorem EOk.from {H H1 : Hp} {μ μ1 : Mu} {DD : DEnds} {D : Ends} (c : EOk K H μ DD D) (e : Same (hid H μ) (hid H1 μ1)) : EOk K H1 μ1 DD D := ⟨c.nx.from e, c.bk.from e, c.ct.from e, c.rt.from e⟩
def SS (K : PySem.W.Frag) (t : TS) (M : DSx) : Prop := ∀ σ H D δ μ DD, Rel K (hid H μ) σ δ → HM K H μ → M DD δ μ → EOk K H μ DD D → t D σ H
structure DS (X : Cx) (st : Stmt) (t : TS) (M : DSx) : Prop where
  ps : PS X st t
  ss : SS X.K t M
structure DB (X : Cx) (st : List Stmt) (t : TS) (M : DSx) : Prop where
  ps : PSs X st t
  ss : SS X.K t M
variable {st : Stmt} {rest body : List Stmt} {t u : TS} {M M' : DSx}
def mNext : DSx := fun D δ μ => D.nx δ μ
theorem db_nil : DB X [] tNext mNext := ⟨pss_nil, fun σ H D δ μ DD R hm m c => c.nx σ H δ μ (Same.refl _) hm R m⟩
def mSeq (M M' : DSx) : DSx := fun D δ μ => M { D with nx := M' D } δ μ
theorem db_cons (h : DS X st t M) (h2 : DB X rest u M') : DB X (st :: rest) (tSeq t u) (mSeq M M') := ⟨pss_cons h.ps h2.ps, fun σ H D δ μ DD R hm m c => h.ss σ H _ δ μ _ R hm m ⟨fun σ' H' δ' μ' e hm' R' m' => h2.ss σ' H' D δ' μ' DD R' hm' m' (c.from e), c.bk, c.ct, c.rt⟩⟩
theorem db_one (h : DS X st t M) : DB X [st] t M := ⟨pss_one h.ps, h.ss⟩
def mRet (Me : DEx) : DSx := fun D δ μ => Me δ μ D.rt
theorem ds_ret (h : DE X e te Me) : DS X (.Return (some e) pos) (tRet te) (mRet Me) := ⟨ps_ret h.pe, fun σ H D δ μ DD R hm m c => h.se σ H D.rt δ μ DD.rt R hm m c.rt⟩
def mExpr (Me : DEx) : DSx := fun D δ μ => Me δ μ fun _ μ1 => D.nx δ μ1
theorem ds_expr (h : DE X e te Me) (hs : swapsWith e none pos.line X.env = pure false := by rfl) : DS X (.Expr e pos) (tDrop te) (mExpr Me) := ⟨ps_expr h.pe hs, fun σ H D δ μ DD R hm m c => h.se σ H _ δ μ _ R hm m fun v H1 a μ1 e1 hm1 r1 m1 => c.nx σ H1 δ μ1 e1 hm1 (R.mono e1) m1⟩
def mIfS (MT : DTx) (M M' : DSx) : DSx := fun D δ μ => MT δ μ fun k μ1 => if k = true then M D δ μ1 else M' D δ μ1
theorem ds_if {c : Expr} {tc : TT} {MT : DTx} {xs ys : List Stmt} (hc : DT X c tc MT) (h : DB X xs t M) (h2 : DB X ys u M') : DS X (.If c xs ys pos) (tIfS tc t u) (mIfS MT M M') := ⟨ps_if hc.pt h.ps h2.ps, fun σ H D δ μ DD R hm m c => hc.st σ H _ δ μ _ R hm m fun k H1 μ1 e1 hm1 m1 => by
  cases k with
  | true => exact h.ss σ H1 D δ μ1 DD (R.mono e1) hm1 m1 (c.from e1)
  | false => exact h2.ss σ H1 D δ μ1 DD (R.mono e1) hm1 m1 (c.from e1)⟩
def mAsg (Me : DEx) (G : DGx) : DSx := fun D δ μ => Me δ μ fun a μ1 => G a δ μ1 D.nx
theorem ss_asg {g : TG} {G : DGx} (h : SE K te Me) (hg : SG K g G vs) : SS K (tAsg te g) (mAsg Me G) := fun σ H D δ μ DD R hm m c =>
  h σ H _ δ μ _ R hm m fun v H1 a μ1 e1 hm1 r1 m1 => hg v σ H1 D.nx a δ μ1 DD.nx (R.mono e1) hm1 r1 m1 fun σ2 H2 δ2 μ2 e2 hm2 R2 _ m2 => c.nx σ2 H2 δ2 μ2 (e1.trans e2) hm2 R2 m2
theorem ds_asg {tg : Expr} {g : TG} {G : DGx} (h : DE X e te Me) (hg : DG X tg g G vs) (hs : swapsWithSole [tg] e pos.line X.env = pure false := by rfl) (hw : swappedStores [tg] e X.env = pure none := by rfl)
    (h1 : (assignEach [tg] X.env).map (·.2) = [assign tg X.env] := by rfl) : DS X (.Assign [tg] e pos) (tAsg te g) (mAsg Me G) := ⟨ps_asg h.pe hg.pg hs hw h1, ss_asg h.se hg.sg⟩
theorem ds_set {i : Nat} (h : PS X st (tAsg te (gName i))) (he : SE X.K te Me) : DS X st (tAsg te (gName i)) (mAsg Me (mgName i)) := ⟨h, ss_asg (vs := [i]) he fun v σ H Q a δ μ P R hm r m c => c _ H _ μ (Same.refl _) hm (R.set i r) (wipe_set (by simp)) m⟩
def mPar (i j : Nat) (MA : DAx) : DSx := fun D δ μ => MA δ μ fun as μ1 => ∃ a b, as = [a, b] ∧ D.nx ((δ.set i (some a)).set j (some b)) μ1
theorem ds_par {i j : Nat} {ta : TA} {MA : DAx} (h : PS X st (tPar i j ta)) (ha : SA X.K ta MA) : DS X st (tPar i j ta) (mPar i j MA) := ⟨h, fun σ H D δ μ DD R hm m c => ha σ H _ δ μ _ R hm m fun xs H1 as μ1 e1 hm1 r1 ⟨a, b, ea, m1⟩ => by
  subst ea
  obtain ⟨v, w, rfl, rv, rw'⟩ := relAs2 r1
  exact ⟨v, w, rfl, c.nx _ H1 _ μ1 e1 hm1 (((R.mono e1).set i rv).set j rw') m1⟩⟩
theorem relAs3 {H : Hp} {vs : List V} {a b c : AV} (h : RelAs K H vs [a, b, c]) : ∃ v w u, vs = [v, w, u] ∧ RelA K H v a ∧ RelA K H w b ∧ RelA K H u c := by
  cases h with
  | cons r t =>
    obtain ⟨w, u, rfl, r2, r3⟩ := relAs2 t
    exact ⟨_, _, _, rfl, r, r2, r3⟩
def mPar3 (i j l : Nat) (MA : DAx) : DSx := fun D δ μ => MA δ μ fun as μ1 => ∃ a b c, as = [a, b, c] ∧ D.nx (((δ.set i (some a)).set j (some b)).set l (some c)) μ1
theorem ds_par3 {i j l : Nat} {ta : TA} {MA : DAx} (h : PS X st (tPar3 i j l ta)) (ha : SA X.K ta MA) : DS X st (tPar3 i j l ta) (mPar3 i j l MA) := ⟨h, fun σ H D δ μ DD R hm m c => ha σ H _ δ μ _ R hm m fun xs H1 as μ1 e1 hm1 r1 ⟨a, b, d, ea, m1⟩ => by
  subst ea
  obtain ⟨v, w, z, rfl, rv, rw', rz⟩ := relAs3 r1
  exact ⟨v, w, z, rfl, c.nx _ H1 _ μ1 e1 hm1 ((((R.mono e1).set i rv).set j rw').set l rz) m1⟩⟩
/-! ### loops, comprehensions -/
structure DWk (K : PySem.W.Frag) (J : It) (ds : List PyData) (H0 : Hp) (μ0 : Mu) : Prop where
  goes : ∀ i H μ, i < ds.length → Same (hid H0 μ0) (hid H μ) → J.go i H
  stops : ∀ H μ, Same (hid H0 μ0) (hid H μ) → J.stop ds.length H
  yields : ∀ i H μ x H', i < ds.length → Same (hid H0 μ0) (hid H μ) → HM K H μ → J.yld i H x H' → ∃ d, ds[i]? = some d ∧ Same (hid H μ) (hid H' μ) ∧ HM K H' μ ∧ Dp K0 (hid H' μ) x d
abbrev DIx := Dl → Mu → (List PyData → Mu → Prop) → Prop
def SI (K : PySem.W.Frag) (wi : TI) (M : DIx) : Prop := ∀ σ H R δ μ P, Rel K (hid H μ) σ δ → HM K H μ → M δ μ P → (∀ J H' ds μ', Same (hid H μ) (hid H' μ') → HM K H' μ' → DWk K J ds H' μ' → P ds μ' → R J H') → wi σ H R
structure DI (X : Cx) (tg iter : Expr) (wi : TI) (M : DIx) : Prop where
  pi : PI X tg iter wi
  si : SI X.K wi M
variable {tg iter : Expr}
def miL (Me : DEx) : DIx := fun δ μ P => Me δ μ fun a μ1 => ∃ ds, a = .dat (.list ds) ∧ P ds μ1
def miT (Me : DEx) : DIx := fun δ μ P => Me δ μ fun a μ1 => ∃ ds, a = .dat (.tuple ds) ∧ P ds μ1
theorem wk_list {H : Hp} {μ : Mu} {p : Addr} {xs : List V} {ds : List PyData} (h : Rd (hid H μ) p (.lst xs)) (r : DpAll K0 (hid H μ) xs ds) : DWk K (Itl K p) ds H μ where
  goes := fun i H1 μ1 hi e => by
    obtain ⟨v, hv, _⟩ := dpAll_get r (List.getElem?_eq_getElem hi)
    exact ⟨xs, v, .inl (rd_mono (e.trans (hid_same _ _)) h), hv⟩
  stops := fun H1 μ1 e => ⟨xs, .inl (rd_mono (e.trans (hid_same _ _)) h), by rw [dpAll_len r]; exact Nat.le_refl _⟩
  yields := fun i H1 μ1 x H' hi e hm y => by
    obtain ⟨rfl, y⟩ := y
    obtain ⟨d, hd, rd⟩ := dpAll_getV r (y xs (.inl (rd_mono (e.trans (hid_same _ _)) h)))
    exact ⟨d, hd, Same.refl _, hm, dp_mono e rd⟩
theorem wk_tup {H : Hp} {μ : Mu} {p : Addr} {xs : List V} {ds : List PyData} (h : Rd (hid H μ) p (.tup xs)) (r : DpAll K0 (hid H μ) xs ds) : DWk K (Itt K p) ds H μ where
  goes := fun i H1 μ1 hi e => by
    obtain ⟨v, hv, _⟩ := dpAll_get r (List.getElem?_eq_getElem hi)
    exact ⟨xs, v, .inl (rd_mono (e.trans (hid_same _ _)) h), hv⟩
  stops := fun H1 μ1 e => ⟨xs, .inl (rd_mono (e.trans (hid_same _ _)) h), by rw [dpAll_len r]; exact Nat.le_refl _⟩
  yields := fun i H1 μ1 x H' hi e hm y => by
    obtain ⟨rfl, y⟩ := y
    obtain ⟨d, hd, rd⟩ := dpAll_getV r (y xs (.inl (rd_mono (e.trans (hid_same _ _)) h)))
    exact ⟨d, hd, Same.refl _, hm, dp_mono e rd⟩
theorem di_list (h : DE X iter te Me) : DI X tg iter (iList X.K te) (miL Me) := ⟨pi_list h.pe, fun σ H R δ μ P Rl hm m c => h.se σ H _ δ μ _ Rl hm m fun v H1 a μ1 e1 hm1 r1 ⟨ds, ea, m1⟩ => by
  subst ea
  obtain ⟨p1, v1, rfl, h1, a1⟩ := dp_list r1
  exact ⟨p1, rfl, ⟨v1, .inl (rd_mono (hid_same _ _) h1)⟩, c _ H1 ds μ1 e1 hm1 (wk_list h1 a1) m1⟩⟩
theorem di_tup (h : DE X iter te Me) : DI X tg iter (iTup X.K te) (miT Me) := ⟨pi_tup h.pe, fun σ H R δ μ P Rl hm m c => h.se σ H _ δ μ _ Rl hm m fun v H1 a μ1 e1 hm1 r1 ⟨ds, ea, m1⟩ => by
  subst ea
  obtain ⟨p1, v1, rfl, h1, a1⟩ := dp_tuple r1
  exact ⟨p1, rfl, ⟨v1, .inl (rd_mono (hid_same _ _) h1)⟩, c _ H1 ds μ1 e1 hm1 (wk_tup h1 a1) m1⟩⟩
/-- the signsD of a text -/
def signsD (z : Str) : List PyData := z.cps.toList.map fun c => .str ⟨#[c]⟩
def miS (Me : DEx) : DIx := fun δ μ P => Me δ μ fun a μ1 => ∃ z, a = .dat (.str z) ∧ P (signsD z) μ1
theorem signsD_len (z : Str) : (signsD z).length = z.cps.size := by
  unfold signsD
  rw [List.length_map, Array.length_toList]
theorem wk_str {H : Hp} {μ : Mu} {z : Str} : DWk K (Its z) (signsD z) H μ where
  goes := fun i H1 μ1 hi e => by
    rw [signsD_len] at hi
    exact hi
  stops := fun H1 μ1 e => by
    show z.cps.size ≤ (signsD z).length
    rw [signsD_len]
    exact Nat.le_refl _
  yields := fun i H1 μ1 x H' hi e hm y => by
    obtain ⟨rfl, c, hc, rfl⟩ := y
    refine ⟨.str ⟨#[c]⟩, ?_, Same.refl _, hm, .str _⟩
    unfold signsD
    rw [List.getElem?_map, Array.getElem?_toList, hc]
    rfl
theorem di_str (h : DE X iter te Me) (hp : PI X tg iter (iStr te)) : DI X tg iter (iStr te) (miS Me) := ⟨hp, fun σ H R δ μ P Rl hm m c => h.se σ H _ δ μ _ Rl hm m fun v H1 a μ1 e1 hm1 r1 ⟨z, ea, m1⟩ => by
  subst ea
  exact ⟨z, dp_str r1, c _ H1 _ μ1 e1 hm1 wk_str m1⟩⟩
def rangeD (lo : Int) (n : Nat) : List PyData := (List.range n).map fun i => .int (lo + (i : Nat))
theorem wk_range {H : Hp} {μ : Mu} {lo : Int} {n : Nat} : DWk K (Itr lo n) (rangeD lo n) H μ where
  goes := fun i H1 μ1 hi e => by
    have hi' : i < n := by simpa [rangeD] using hi
    exact hi'
  stops := fun H1 μ1 e => by
    show n ≤ (rangeD lo n).length
    simp [rangeD]
  yields := fun i H1 μ1 x H' hi e hm y => by
    obtain ⟨rfl, rfl⟩ := y
    have hi' : i < n := by simpa [rangeD] using hi
    refine ⟨.int (lo + i), ?_, Same.refl _, hm, .int _⟩
    unfold rangeD
    rw [List.getElem?_map, List.getElem?_range hi']
    rfl
def miR (MA : DAx) : DIx := fun δ μ P => MA δ μ fun as μ1 => ∃ j : Int, as = [.dat (.int j)] ∧ -(2 ^ 62) ≤ j ∧ j < 2 ^ 62 ∧ P (rangeD 0 j.toNat) μ1
theorem di_range {ta : TA} {MA : DAx} (hp : PI X tg iter (iRng1 ta)) (h : SA X.K ta MA) : DI X tg iter (iRng1 ta) (miR MA) := ⟨hp, fun σ H R δ μ P Rl hm m c => h σ H _ δ μ _ Rl hm m fun xs H1 as μ1 e1 hm1 r1 ⟨j, ea, h1, h2, m1⟩ => by
  subst ea
  obtain ⟨v, rfl, rv⟩ := relAs1 r1
  rw [dp_int rv]
  exact ⟨j, rfl, h1, h2, c _ H1 _ μ1 e1 hm1 wk_range m1⟩⟩
/-- pairs that are laid anew at each turn -/
theorem pair_new {H : Hp} {μ : Mu} (hm : HM K H μ) {T : Addr} (n : H T = none) {x y : V} {d e : PyData} (r1 : Dp K0 (hid H μ) x d) (r2 : Dp K0 (hid H μ) y e) :
    Same (hid H μ) (hid (upd H T (.tup [x, y])) μ) ∧ HM K (upd H T (.tup [x, y])) μ ∧ Dp K0 (hid (upd H T (.tup [x, y])) μ) (.ref T) (.tuple [d, e]) :=
  ⟨hid_new hm n _, hm.new n _, rel_tup (K := K) hm n (.cons r1 (.cons r2 .nil))⟩
def enumD (ds : List PyData) : List PyData := (List.range ds.length).zipWith (fun i d => .tuple [.int (i : Nat), d]) ds
theorem enumD_len (ds : List PyData) : (enumD ds).length = ds.length := by simp [enumD]
theorem wk_enum {H : Hp} {μ : Mu} {p : Addr} {xs : List V} {ds : List PyData} (h : Rd (hid H μ) p (.lst xs)) (r : DpAll K0 (hid H μ) xs ds) : DWk K (Ite K p) (enumD ds) H μ where
  goes := fun i H1 μ1 hi e => by
    rw [enumD_len] at hi
    obtain ⟨v, hv, _⟩ := dpAll_get r (List.getElem?_eq_getElem hi)
    exact ⟨xs, v, .inl (rd_mono (e.trans (hid_same _ _)) h), hv⟩
  stops := fun H1 μ1 e => ⟨xs, .inl (rd_mono (e.trans (hid_same _ _)) h), by rw [dpAll_len r, enumD_len]; exact Nat.le_refl _⟩
  yields := fun i H1 μ1 x H' hi e hm y => by
    rw [enumD_len] at hi
    obtain ⟨T, z, rfl, n, rfl, y⟩ := y
    obtain ⟨d, hd, rd⟩ := dpAll_getV r (y xs (.inl (rd_mono (e.trans (hid_same _ _)) h)))
    obtain ⟨q1, q2, q3⟩ := pair_new hm n (.int ((i : Nat) : Int)) (dp_mono e rd)
    refine ⟨_, ?_, q1, q2, q3⟩
    unfold enumD
    rw [List.getElem?_zipWith, List.getElem?_range hi, hd]
def miE (MA : DAx) : DIx := fun δ μ P => MA δ μ fun as μ1 => ∃ ds, as = [.dat (.list ds)] ∧ P (enumD ds) μ1
theorem di_enum {ta : TA} {MA : DAx} (hp : PI X tg iter (iEnum X.K ta)) (h : SA X.K ta MA) : DI X tg iter (iEnum X.K ta) (miE MA) := ⟨hp, fun σ H R δ μ P Rl hm m c => h σ H _ δ μ _ Rl hm m fun xs H1 as μ1 e1 hm1 r1 ⟨ds, ea, m1⟩ => by
  subst ea
  obtain ⟨v, rfl, rv⟩ := relAs1 r1
  obtain ⟨p1, v1, rfl, h1, a1⟩ := dp_list rv
  exact ⟨p1, v1, rfl, .inl (rd_mono (hid_same _ _) h1), c _ H1 _ μ1 e1 hm1 (wk_enum h1 a1) m1⟩⟩
def zipD (ds es : List PyData) : List PyData := List.zipWith (fun d e => .tuple [d, e]) ds es
theorem wk_zip {H : Hp} {μ : Mu} {p q : Addr} {xs ys : List V} {ds es : List PyData} (h : Rd (hid H μ) p (.lst xs)) (r : DpAll K0 (hid H μ) xs ds) (h2 : Rd (hid H μ) q (.lst ys)) (r2 : DpAll K0 (hid H μ) ys es) : DWk K (Itz K p q) (zipD ds es) H μ where
  goes := fun i H1 μ1 hi e => by
    simp only [zipD, List.length_zipWith] at hi
    obtain ⟨v, hv, _⟩ := dpAll_get r (List.getElem?_eq_getElem (show i < ds.length by omega))
    obtain ⟨v2, hv2, _⟩ := dpAll_get r2 (List.getElem?_eq_getElem (show i < es.length by omega))
    exact ⟨xs, ys, v, v2, .inl (rd_mono (e.trans (hid_same _ _)) h), .inl (rd_mono (e.trans (hid_same _ _)) h2), hv, hv2⟩
  stops := fun H1 μ1 e => ⟨xs, ys, .inl (rd_mono (e.trans (hid_same _ _)) h), .inl (rd_mono (e.trans (hid_same _ _)) h2), by rw [dpAll_len r, dpAll_len r2]; simp only [zipD, List.length_zipWith]; omega⟩
  yields := fun i H1 μ1 x H' hi e hm y => by
    obtain ⟨T, z, z2, rfl, n, rfl, y, y2⟩ := y
    obtain ⟨d, hd, rd⟩ := dpAll_getV r (y xs (.inl (rd_mono (e.trans (hid_same _ _)) h)))
    obtain ⟨d2, hd2, rd2⟩ := dpAll_getV r2 (y2 ys (.inl (rd_mono (e.trans (hid_same _ _)) h2)))
    obtain ⟨q1, q2, q3⟩ := pair_new hm n (dp_mono e rd) (dp_mono e rd2)
    refine ⟨_, ?_, q1, q2, q3⟩
    unfold zipD
    rw [List.getElem?_zipWith, hd, hd2]
theorem wk_zipT {H : Hp} {μ : Mu} {p q : Addr} {xs ys : List V} {ds es : List PyData} (h : Rd (hid H μ) p (.tup xs)) (r : DpAll K0 (hid H μ) xs ds) (h2 : Rd (hid H μ) q (.tup ys)) (r2 : DpAll K0 (hid H μ) ys es) : DWk K (ItzT K p q) (zipD ds es) H μ where
  goes := fun i H1 μ1 hi e => by
    simp only [zipD, List.length_zipWith] at hi
    obtain ⟨v, hv, _⟩ := dpAll_get r (List.getElem?_eq_getElem (show i < ds.length by omega))
    obtain ⟨v2, hv2, _⟩ := dpAll_get r2 (List.getElem?_eq_getElem (show i < es.length by omega))
    exact ⟨xs, ys, v, v2, .inl (rd_mono (e.trans (hid_same _ _)) h), .inl (rd_mono (e.trans (hid_same _ _)) h2), hv, hv2⟩
  stops := fun H1 μ1 e => ⟨xs, ys, .inl (rd_mono (e.trans (hid_same _ _)) h), .inl (rd_mono (e.trans (hid_same _ _)) h2), by rw [dpAll_len r, dpAll_len r2]; simp only [zipD, List.length_zipWith]; omega⟩
  yields := fun i H1 μ1 x H' hi e hm y => by
    obtain ⟨T, z, z2, rfl, n, rfl, y, y2⟩ := y
    obtain ⟨d, hd, rd⟩ := dpAll_getV r (y xs (.inl (rd_mono (e.trans (hid_same _ _)) h)))
    obtain ⟨d2, hd2, rd2⟩ := dpAll_getV r2 (y2 ys (.inl (rd_mono (e.trans (hid_same _ _)) h2)))
    obtain ⟨q1, q2, q3⟩ := pair_new hm n (dp_mono e rd) (dp_mono e rd2)
    refine ⟨_, ?_, q1, q2, q3⟩
    unfold zipD
    rw [List.getElem?_zipWith, hd, hd2]
def zipAs : List AV → Option (List PyData)
  | [.dat (.list ds), .dat (.list es)] => some (zipD ds es)
  | [.dat (.tuple ds), .dat (.tuple es)] => some (zipD ds es)
  | _ => none
theorem zipAs_eq {as : List AV} {zs : List PyData} (h : zipAs as = some zs) : ∃ ds es, (as = [.dat (.list ds), .dat (.list es)] ∨ as = [.dat (.tuple ds), .dat (.tuple es)]) ∧ zs = zipD ds es := by
  unfold zipAs at h
  split at h
  · cases h
    exact ⟨_, _, .inl rfl, rfl⟩
  · cases h
    exact ⟨_, _, .inr rfl, rfl⟩
  · cases h
def miZ (MA : DAx) : DIx := fun δ μ P => MA δ μ fun as μ1 => ∃ zs, zipAs as = some zs ∧ P zs μ1
theorem di_zip {ta : TA} {MA : DAx} (hp : PI X tg iter (iZipA X.K ta)) (h : SA X.K ta MA) : DI X tg iter (iZipA X.K ta) (miZ MA) := ⟨hp, fun σ H R δ μ P Rl hm m c => h σ H _ δ μ _ Rl hm m fun xs H1 as μ1 e1 hm1 r1 ⟨zs, ez, m1⟩ => by
  obtain ⟨ds, es, ea, rfl⟩ := zipAs_eq ez
  rcases ea with ea | ea
  · subst ea
    obtain ⟨v, w, rfl, rv, rw'⟩ := relAs2 r1
    obtain ⟨p1, v1, rfl, h1, a1⟩ := dp_list rv
    obtain ⟨p2, v2, rfl, h2, a2⟩ := dp_list rw'
    exact ⟨p1, p2, v1, v2, rfl, .inl ⟨.inl (rd_mono (hid_same _ _) h1), .inl (rd_mono (hid_same _ _) h2), c _ H1 _ μ1 e1 hm1 (wk_zip h1 a1 h2 a2) m1⟩⟩
  · subst ea
    obtain ⟨v, w, rfl, rv, rw'⟩ := relAs2 r1
    obtain ⟨p1, v1, rfl, h1, a1⟩ := dp_tuple rv
    obtain ⟨p2, v2, rfl, h2, a2⟩ := dp_tuple rw'
    exact ⟨p1, p2, v1, v2, rfl, .inr ⟨.inl (rd_mono (hid_same _ _) h1), .inl (rd_mono (hid_same _ _) h2), c _ H1 _ μ1 e1 hm1 (wk_zipT h1 a1 h2 a2) m1⟩⟩⟩
def mFor (MI : DIx) (G : DGx) (M : DSx) : DSx := fun D δ μ => MI δ μ fun ds μ1 => ∃ W : Nat → Dl → Mu → Prop, W 0 δ μ1 ∧
  (∀ i d δ' μ', ds[i]? = some d → W i δ' μ' → G (.dat d) δ' μ' fun δ2 μ2 => M { D with nx := W (i + 1), ct := W (i + 1), bk := D.nx } δ2 μ2) ∧ ∀ δ' μ', W ds.length δ' μ' → D.nx δ' μ'
theorem ds_for {wi : TI} {MI : DIx} {g : TG} {G : DGx} (hp : PassesOwn (model X.prog X.w) X.A X.env X.xe) (hc : X.calm = true) (hi : DI X tg iter wi MI) (hg : DG X tg g G vs) (hb : DB X body t M) (hs : ∀ x, foldedSetIterable iter X.env x = pure x := by intro _; rfl) :
    DS X (.For tg iter body [] pos) (tFor wi g t) (mFor MI G M) := ⟨ps_for hp hc hi.pi hg.pg hb.ps hs, fun σ H D δ μ DD R hm m c => hi.si σ H _ δ μ _ R hm m fun J H1 ds μ1 e1 hm1 wk ⟨W, w0, turn, done⟩ => by
  refine ⟨fun i k σ' H' => k = ds.length - i ∧ i ≤ ds.length ∧ ∃ δ' μ', Same (hid H1 μ1) (hid H' μ') ∧ HM X.K H' μ' ∧ Rel X.K (hid H' μ') σ' δ' ∧ W i δ' μ',
    ⟨ds.length, by simp, Nat.zero_le _, δ, μ1, Same.refl _, hm1, R.mono e1, w0⟩, ?_⟩
  rintro i k σ' H' ⟨rfl, hi, δ', μ', e', hm', R', w'⟩
  by_cases hlt : i < ds.length
  · refine .inr ⟨wk.goes i H' μ' hlt e', fun σ2 H2 => ∃ δ2 μ2, Same (hid H1 μ1) (hid H2 μ2) ∧ HM X.K H2 μ2 ∧ Rel X.K (hid H2 μ2) σ2 δ2 ∧ W (i + 1) δ2 μ2, fun σ2 H2 q => ⟨ds.length - (i + 1), by omega, rfl, hlt, q⟩, fun x H2 y => ?_⟩
    obtain ⟨d, hd, es, hm2, rd⟩ := wk.yields i H' μ' x H2 hlt e' hm' y
    refine hg.sg x σ' H2 _ (.dat d) δ' μ' _ (R'.mono es) hm2 rd (turn i d δ' μ' hd w') fun σ3 H3 δ3 μ3 e3 hm3 R3 _ m3 => ?_
    have e13 := (e'.trans es).trans e3
    refine hb.ss σ3 H3 _ δ3 μ3 _ R3 hm3 m3 ⟨fun σ4 H4 δ4 μ4 e4 hm4 R4 w4 => ⟨δ4, μ4, e13.trans e4, hm4, R4, w4⟩, (c.nx.from e1).from e13, fun σ4 H4 δ4 μ4 e4 hm4 R4 w4 => ⟨δ4, μ4, e13.trans e4, hm4, R4, w4⟩, (c.rt.from e1).from e13⟩
  · have ei : i = ds.length := by omega
    subst ei
    exact .inl ⟨wk.stops H' μ' e', c.nx σ' H' δ' μ' (e1.trans e') hm' R' (done δ' μ' w')⟩⟩
abbrev cellA (acc : List PyData) : Option MO := some (.lst (acc.map AV.dat))
def mLc (MI : DIx) (G : DGx) (MT : DTx) (ME : DEx) (vs : List Nat) : DEx := fun δ μ P => MI δ μ fun ds μ1 => ds.length ≤ sizeLine ∧ ∀ D, μ1 D = none → ∃ W : Nat → List PyData → Mu → Prop, W 0 [] (mset μ1 D (cellA [])) ∧
  (∀ i d acc μ', ds[i]? = some d → W i acc μ' → μ' D = cellA acc → G (.dat d) (wipeD δ vs) μ' fun δ2 μ2 => MT δ2 μ2 fun b μ3 =>
    if b = true then ME δ2 μ3 fun a μ4 => ∃ e, a = .dat e ∧ μ4 D = cellA acc ∧ W (i + 1) (acc ++ [e]) (mset μ4 D (cellA (acc ++ [e]))) else μ3 D = cellA acc ∧ W (i + 1) acc μ3) ∧
  ∀ acc μ', W ds.length acc μ' → μ' D = cellA acc → P (.dat (.list acc)) (mset μ' D none)
structure DTs (X : Cx) (ifs : List Expr) (t : TT) (M : DTx) : Prop where
  pts : PTs X ifs t
  st : ST X.K t M
theorem dts_nil : DTs X [] tYes (fun _ μ P => P true μ) := ⟨pts_nil, fun σ H Q δ μ P R hm m c => c true H μ (Same.refl _) hm m⟩
theorem dts_one {c : Expr} {tc : TT} {MT : DTx} (h : DT X c tc MT) : DTs X [c] tc MT := ⟨pts_one h.pt, h.st⟩
theorem se_lc {wi : TI} {MI : DIx} {g : TG} {G : DGx} {tt : TT} {MT : DTx} {ME : DEx} (hi : SI K wi MI) (hg : SG K g G vs) (ht : ST K tt MT) (he : SE K te ME) : SE K (tLc wi g tt te vs) (mLc MI G MT ME vs) := fun σ H Q δ μ P R hm m c => by
  refine hi σ H _ δ μ _ R hm m fun J H1 ds μ1 e1 hm1 wk ⟨hz, m1⟩ D nD => ?_
  have hD : hid H1 μ1 D = none := by rw [hid_none (hm1.ne nD)]; exact nD
  obtain ⟨W, w0, turn, done⟩ := m1 D (hm1.ne nD)
  refine ⟨fun i k H' => k = ds.length - i ∧ i ≤ ds.length ∧ ∃ acc μ', Same (hid H1 μ1) (hid H' μ') ∧ HM K H' μ' ∧ μ' D = cellA acc ∧ acc.length ≤ i ∧ W i acc μ',
    ⟨ds.length, by simp, Nat.zero_le _, [], _, by rw [hid_store hD]; exact Same.refl _, hm1.store hD .nil, mset_same, Nat.le_refl _, w0⟩, ?_⟩
  rintro i k H' ⟨rfl, hi', acc, μ', e', hm', hc, hl, w'⟩
  by_cases hlt : i < ds.length
  · refine .inr ⟨wk.goes i H' μ' hlt e', fun H2 => ∃ acc μ2, Same (hid H1 μ1) (hid H2 μ2) ∧ HM K H2 μ2 ∧ μ2 D = cellA acc ∧ acc.length ≤ i + 1 ∧ W (i + 1) acc μ2, fun H2 q => ⟨ds.length - (i + 1), by omega, rfl, hlt, q⟩, fun x H2 y => ?_⟩
    obtain ⟨d, hd, es, hm2, rd⟩ := wk.yields i H' μ' x H2 hlt e' hm' y
    have e01 := e'.trans es
    refine hg x (wipe σ vs) H2 _ (.dat d) (wipeD δ vs) μ' _ ((R.mono (e1.trans e01)).wipe vs) hm2 rd (turn i d acc μ' hd w' hc) fun σ3 H3 δ3 μ3 e3 hm3 R3 w3 m3 => ?_
    refine ⟨w3.trans (by
      have q : ∀ ws : List Nat, wipe (wipe σ ws) ws = wipe σ ws := by
        intro ws
        induction ws with
        | nil => rfl
        | cons w ws ih =>
          have q2 : wipe (wipe σ (w :: ws)) (w :: ws) = wipe (wipe σ ws) (w :: ws) := by
            show wipe ((wipe σ ws).set w none) (w :: ws) = _
            exact wipe_set List.mem_cons_self
          rw [q2]
          show (wipe (wipe σ ws) ws).set w none = (wipe σ ws).set w none
          rw [ih]
      exact q vs), ht σ3 H3 _ δ3 μ3 _ R3 hm3 m3 fun b H4 μ4 e4 hm4 m4 => ?_⟩
    cases b with
    | false =>
      obtain ⟨hc4, w4⟩ := m4
      exact ⟨acc, μ4, (e01.trans e3).trans e4, hm4, hc4, by omega, w4⟩
    | true =>
      refine he σ3 H4 _ δ3 μ4 _ (R3.mono e4) hm4 m4 fun y5 H5 a5 μ5 e5 hm5 r5 ⟨d5, ea, hc5, w5⟩ => ?_
      subst ea
      obtain ⟨zs, ez, rz⟩ := hm5.lst hc5
      have hp := hid_cell (H := H5) hc5
      refine ⟨zs, ez, ?_, acc ++ [d5], _, ?_, hm5.store hp (xs := zs ++ [y5]) (as := (acc ++ [d5]).map AV.dat) ?_, mset_same, by rw [List.length_append]; simp; exact hl, w5⟩
      · have q := paired_len rz
        rw [List.length_map] at q
        omega
      · rw [hid_store hp]
        exact ((e01.trans e3).trans e4).trans e5
      · rw [List.map_append]
        exact paired_append rz (.cons r5 .nil)
  · have ei : i = ds.length := by omega
    subst ei
    refine .inl ⟨wk.stops H' μ' e', ?_⟩
    exact c _ H' (.dat (.list acc)) _ ((e1.trans e').trans (hid_freeze D)) (hm'.freeze D) (dp_freeze hm' hc) (done acc μ' w' hc)
theorem de_lc {elt : Expr} {ifs : List Expr} {scope : Scope} {own : List (Str × Nat)} {wi : TI} {MI : DIx} {g : TG} {G : DGx} {tt : TT} {MT : DTx} {ME : DEx} (hc : X.calm = true) (hN : X.N.Nodup) (hi : DI X tg iter wi MI) (ok : BlkOk X.N X.env.scope scope own)
    (hg : ∀ (s : Shared) (H : Hp) (C : Addr) (cl : List (Str × Addr)) (fp : List Addr), DG (X.blk s H scope (compEnvC scope cl C X.env) fp) tg g G (own.map (·.2))) (ht : ∀ (s : Shared) (H : Hp) (C : Addr) (cl : List (Str × Addr)) (fp : List Addr), DTs (X.blk s H scope (compEnvC scope cl C X.env) fp) ifs tt MT)
    (he : ∀ (s : Shared) (H : Hp) (C : Addr) (cl : List (Str × Addr)) (fp : List Addr), DE (X.blk s H scope (compEnvC scope cl C X.env) fp) elt te ME) (hs : ∀ x, foldedSetIterable iter X.env x = pure x := by intro _; rfl) :
    DE X (.ListComp elt [⟨tg, iter, ifs, 0⟩] scope pos) (tLc wi g tt te (own.map (·.2))) (mLc MI G MT ME (own.map (·.2))) :=
  ⟨pe_lc hc hN hi.pi ok (fun s H C cl fp => (hg s H C cl fp).pg) (fun s H C cl fp => (ht s H C cl fp).pts) (fun s H C cl fp => (he s H C cl fp).pe) hs,
    se_lc hi.si (hg X.s_0 X.H_0 0 [] []).sg (ht X.s_0 X.H_0 0 [] []).st (he X.s_0 X.H_0 0 [] []).se⟩
end
end DL


namespace DL
open PySem PySem.Spec PyProof.Rows L2 RZ
theorem hu64 {k : Nat} {A : Around} (h : Room k A) : A.units + 64 < cLine := by
  have := h.un
  omega
theorem hu65 {k : Nat} {A : Around} (h : Room k A) : A.units + 65 < cLine := by
  have := h.un
  omega
def startD (N : List Str) (as : List AV) : Dl := as.map some ++ List.replicate (N.length - as.length) none
theorem rel_start {K : PySem.W.Frag} {H : Hp} {N : List Str} {vs : List V} {as : List AV} (r : RelAs K H vs as) : Rel K H (L2.start N vs) (startD N as) := by
  have hl := paired_len r
  refine ⟨by unfold L2.start startD; simp [hl], fun i a h => ?_⟩
  unfold startD at h
  have hi : i < as.length := by
    by_cases hi : i < as.length
    · exact hi
    · rw [List.getElem?_append_right (by rw [List.length_map]; omega), List.getElem?_replicate] at h
      split at h <;> cases h
  rw [List.getElem?_append_left (by rw [List.length_map]; exact hi), List.getElem?_map] at h
  cases e : as[i]? with
  | none => rw [e] at h; cases h
  | some c =>
    rw [e] at h
    cases h
    obtain ⟨v, hv, rv⟩ := paired_get r e
    refine ⟨v, ?_, rv⟩
    unfold L2.start
    rw [List.getElem?_append_left (by rw [List.length_map]; omega), List.getElem?_map, hv]
    rfl
section
variable {P : Program} {w : World} {K : PySem.W.Frag} {mg : Str → Option Value} {base : Heap}
/-- a def's promise by data, at what address it may stand -/
structure Prm (P : Program) (w : World) (K : PySem.W.Frag) (mg : Str → Option Value) (base : Heap) (k : Nat) (x : Str) (n : Nat) (d : DOs) : Prop where
  ex : ∃ f fd ps, FnG P w K mg base k f fd ps (spOf K n d) ∧ mg x = some (.ref f) ∧ PySem.W.keepIn K (.ref f) = true ∧ Binds K fd ps []
  hl : ∀ as μ Q, d as μ Q → as.length = n
structure PrmK (P : Program) (w : World) (K : PySem.W.Frag) (mg : Str → Option Value) (base : Heap) (k : Nat) (x : Str) (n : Nat) (ks : List Str) (d : DOs) : Prop where
  ex : ∃ f fd ps, FnG P w K mg base k f fd ps (spOf K n d) ∧ mg x = some (.ref f) ∧ PySem.W.keepIn K (.ref f) = true ∧ (∀ (s : Shared) (ws : List Value), ws.length = ps.length → BindsTo s fd ⟨[], ks.zip ws⟩ (ps.zip ws))
  hl : ∀ as μ Q, d as μ Q → as.length = n
/-- what the top has of a def -/
structure DefAt (K : PySem.W.Frag) (mg : Str → Option Value) (x : Str) (st : Stmt) (ps : List Str) (f : Addr) (fd : FuncData) : Prop where
  fn : Fun K x x st f fd
  at_ : mg x = some (.ref f)
  bd : Binds K fd ps []
theorem fng_by {k : Nat} {x : Str} {st : Stmt} {f : Addr} {fd : FuncData} {N ps : List Str} {n : Nat} {d : DOs} (F : Fun K x x st f fd) (S : FnScope N ps (defScope st)) (hn : ps.length = n)
    (body : ∀ (cdv : Value) (A : Around) (out : List Env) (s : Shared) (H : Hp), Room k (A.deeper (envOfC x (defScope st) s.heap.objs.size f cdv)) → A.guards = some [] →
      ∃ t M, DB (cxOf CX0 P w K mg base N x (defScope st) f cdv A out s H E0).nox (defBody st) t M ∧ ∀ as μ Q, d as μ Q → M { nx := fun _ μ' => Q (.dat .none) μ', rt := Q } (startD N as) μ) :
    FnG P w K mg base (k + 1) f fd ps (spOf K n d) := by
  refine fng_of F S (fun vs H Q h => h.1.trans hn.symm) fun cdv A out s H vs Q hr hg h => ?_
  obtain ⟨t, M, hb, hM⟩ := body cdv A out s H hr hg
  obtain ⟨_, as, μ, R, hm, ra, hd, c⟩ := h
  exact ⟨t, hb.ps, hb.ss _ H _ _ μ _ (rel_start ra) hm (hM as μ R hd) ⟨fun σ' H' δ' μ' e hm' _ q => c .non H' (.dat .none) μ' e hm' rN q, fun _ _ _ _ _ _ _ q => q.elim, fun _ _ _ _ _ _ _ q => q.elim, c⟩⟩
theorem prm_of {k : Nat} {x : Str} {st : Stmt} {f : Addr} {fd : FuncData} {N ps : List Str} {n : Nat} {d : DOs} (D : DefAt K mg x st ps f fd) (S : FnScope N ps (defScope st)) (hn : ps.length = n) (hl : ∀ as μ Q, d as μ Q → as.length = n)
    (body : ∀ (cdv : Value) (A : Around) (out : List Env) (s : Shared) (H : Hp), Room k (A.deeper (envOfC x (defScope st) s.heap.objs.size f cdv)) → A.guards = some [] →
      ∃ t M, DB (cxOf CX0 P w K mg base N x (defScope st) f cdv A out s H E0).nox (defBody st) t M ∧ ∀ as μ Q, d as μ Q → M { nx := fun _ μ' => Q (.dat .none) μ', rt := Q } (startD N as) μ) :
    Prm P w K mg base (k + 1) x n d := ⟨⟨f, fd, ps, fng_by D.fn S hn body, D.at_, D.fn.kp, D.bd⟩, hl⟩
theorem Prm.mono {j k : Nat} {x : Str} {n : Nat} {d : DOs} (p : Prm P w K mg base j x n d) (h : j ≤ k) : Prm P w K mg base k x n d := by
  obtain ⟨⟨f, fd, ps, F, r⟩, hl⟩ := p
  exact ⟨⟨f, fd, ps, F.mono h, r⟩, hl⟩
end
section
variable {X : Cx} {K : PySem.W.Frag} {a b e : Expr} {es : List Expr} {ta tb te to : TE} {t : TA} {Ma Mb Me Mo : DEx} {MA : DAx} {pos p apos cpos : Pos} {x : Str}
abbrev tCallD (K : PySem.W.Frag) (n : Nat) (d : DOs) (t : TA) : TE := fun σ H Q => t σ H fun vs H1 => spOf K n d vs H1 Q
theorem de_call {j n : Nat} {d : DOs} (q : Prm X.prog X.w X.K X.mg X.base j x n d) (hr : Room j X.A) (hg : X.A.guards = some []) (gl : Gl X x) (h : DA X (e :: es) t MA) (hdb : (x == ("__debug__" : Str)) = false := by decide)
    (he : starEach (e :: es) X.env = (false, eval e X.env) :: starEach es X.env := by rfl) (hpl : (backTo pos (starEach es X.env)).any (·.1) = false := by rfl) : DE X (.Call (.Name x p) (e :: es) [] pos) (tCallD X.K n d t) (mCall d MA) := by
  obtain ⟨⟨f, fd, ps, F, hm, hk, hb⟩, hl⟩ := q
  exact ⟨pe_callG F hr hg gl hm hk hb h.pa hdb he hpl, se_args (so_of hl) h.sa⟩
/-! the same within a comprehension: what they ask is told by the written part K, not by the block -/
theorem de_callC {P : Program} {w : World} {mg : Str → Option Value} {base : Heap} {j n : Nat} {d : DOs} (q : Prm P w K mg base j x n d) (h1 : X.prog = P) (h2 : X.w = w) (h3 : X.K = K) (h4 : X.mg = mg) (h5 : X.base = base) (hr : Room j X.A) (hg : X.A.guards = some []) (gl : Gl X x) (h : DA X (e :: es) t MA) (hdb : (x == ("__debug__" : Str)) = false := by decide)
    (he : starEach (e :: es) X.env = (false, eval e X.env) :: starEach es X.env := by rfl) (hpl : (backTo pos (starEach es X.env)).any (·.1) = false := by rfl) : DE X (.Call (.Name x p) (e :: es) [] pos) (tCallD K n d t) (mCall d MA) := by
  subst h1 h2 h3 h4 h5
  exact de_call q hr hg gl h hdb he hpl
theorem de_ixC (hK : X.K = K) (ha : DE X a ta Ma) (hb : DE X b tb Mb) (hs : PlainIx b) : DE X (.Subscript a b pos) (tOp (rIx K) ta tb) (mOp oIx Ma Mb) := by
  subst hK
  exact de_ix ha hb hs
theorem de_callBC {id : String} {rr : PySem.W.Frag → List V → Hp → VK → Prop} {d : DOs} (hK : X.K = K) (hc : CallR X (.builtin id) (rr X.K)) (hd : SOs K (rr K) d) (hg : Gl X x) (hm : X.mg x = none) (hv : bootBuiltins x = some (.builtin id)) (h : DA X (a :: es) t MA)
    (hn : x ≠ "__name__" := by decide) (hdb : (x == ("__debug__" : Str)) = false := by decide) (he : starEach (a :: es) X.env = (false, eval a X.env) :: starEach es X.env := by rfl) (hpl : (backTo pos (starEach es X.env)).any (·.1) = false := by rfl) :
    DE X (.Call (.Name x p) (a :: es) [] pos) (tCB (rr K) t) (mCall d MA) := by
  subst hK
  exact de_callB hc hd hg hm hv h hn hdb he hpl
abbrev rLen (K : PySem.W.Frag) : List V → Hp → VK → Prop := fun xs H Q => ∃ x n, xs = [x] ∧ LenV K x H n ∧ Q (.int n) H
structure DK (X : Cx) (kws : List Keyword) (t : TA) (M : DAx) : Prop where
  pk : PK X kws t
  sa : SA X.K t M
theorem dk_nil : DK X [] tNil mNil := ⟨pk_nil, fun _ H _ _ μ _ _ hm m c => c [] H [] μ (Same.refl _) hm .nil m⟩
theorem dk_cons {kws : List Keyword} {nm : Option Str} {kpos : Pos} (ha : DE X a ta Ma) (h : DK X kws t MA) : DK X (⟨nm, a, kpos⟩ :: kws) (tCons ta t) (mCons Ma MA) := ⟨pk_cons ha.pe h.pk, fun σ H Q δ μ P R hm m c =>
  ha.se σ H _ δ μ _ R hm m fun x H1 av μ1 e1 hm1 r1 m1 => h.sa σ H1 _ δ μ1 _ (R.mono e1) hm1 m1 fun xs H2 as μ2 e2 hm2 r2 m2 => c (x :: xs) H2 (av :: as) μ2 (e1.trans e2) hm2 (.cons (relA_mono e2 r1) r2) m2⟩
theorem de_callK {j n : Nat} {d : DOs} {ks : List Str} {kws : List Keyword} (q : PrmK X.prog X.w X.K X.mg X.base j x n ks d) (hr : Room j X.A) (hg : X.A.guards = some []) (gl : Gl X x) (h : DK X kws t MA)
    (hall : (backToKw pos (keywordEach kws X.env)).all (·.1.isSome) = true := by rfl) (hks : (backToKw pos (keywordEach kws X.env)).filterMap (·.1) = ks := by rfl)
    (hdb : (x == ("__debug__" : Str)) = false := by decide) (hpl : ((backTo pos (starEach [] X.env)).any (·.1) || (backToKw pos (keywordEach kws X.env)).any (·.1.isNone)) = false := by rfl) :
    DE X (.Call (.Name x p) [] kws pos) (tCallD X.K n d t) (mCall d MA) := by
  obtain ⟨⟨f, fd, ps, F, hm, hk, hb⟩, hl⟩ := q
  exact ⟨pe_callGK (g := id) (gu := id) F hr hg gl hm hk hb (fun r => r) h.pk hall hks hdb hpl, se_args (so_of hl) h.sa⟩
theorem pe_gc {v : V} (gl : Gl X x) (h : ∃ u, X.mg x = some u ∧ RelV v u) (hd : (x == ("__debug__" : Str)) = false := by decide) : PE X (.Name x pos) (tC v) := pe_glob gl h.choose_spec.1 h.choose_spec.2 hd
/-! statements in short -/
theorem ds_setE {i : Nat} {y : Str} {pos' : Pos} (hN : X.N.Nodup) (hi : X.N[i]? = some y) (hy : Loc X.env.scope y) (he : DE X e te Me) (hs : swapsWith e (some (.Name y pos')) pos.line X.env = pure false := by rfl)
    (hf : X.fn y = true ∨ X.env.scope.names.lookup y = some .local := by first | exact .inl rfl | exact .inr rfl | assumption) : DS X (.Assign [.Name y pos'] e pos) (tAsg te (gName i)) (mAsg Me (mgName i)) := ds_set (ps_set hN hi hy he.pe hs hf) he.se
theorem ds_parE {i j : Nat} {y z : Str} {px py pt : Pos} {kt k2 pt2} (hc : X.calm = true) (hN : X.N.Nodup) (hi : X.N[i]? = some y) (hj : X.N[j]? = some z) (hij : i ≠ j)
    (hx : X.env.scope.names.lookup y = some .local) (hy : X.env.scope.names.lookup z = some .local) (h : DA X [a, b] t MA)
    (hw : swappedStores [.Tuple [.Name y px, .Name z py] kt pt] (.Tuple [a, b] k2 pt2) X.env = pure (some [y, z]))
    (hs : swapsWithSole [.Tuple [.Name y px, .Name z py] kt pt] (.Tuple [a, b] k2 pt2) pos.line X.env = pure false := by rfl) :
    DS X (.Assign [.Tuple [.Name y px, .Name z py] kt pt] (.Tuple [a, b] k2 pt2) pos) (tPar i j t) (mPar i j MA) := ds_par (ps_par hc hN hi hj hij hx hy h.pa hw hs) h.sa
theorem ds_par3E {i j l : Nat} {y z u : Str} {c : Expr} {px py pz pt : Pos} {kt k2 pt2} (hc : X.calm = true) (hN : X.N.Nodup) (hi : X.N[i]? = some y) (hj : X.N[j]? = some z) (hl : X.N[l]? = some u) (hij : i ≠ j) (hil : i ≠ l) (hjl : j ≠ l)
    (hx : X.env.scope.names.lookup y = some .local) (hy : X.env.scope.names.lookup z = some .local) (hz : X.env.scope.names.lookup u = some .local) (h : DA X [a, b, c] t MA)
    (hw : swappedStores [.Tuple [.Name y px, .Name z py, .Name u pz] kt pt] (.Tuple [a, b, c] k2 pt2) X.env = pure (some [y, z, u]))
    (hs : swapsWithSole [.Tuple [.Name y px, .Name z py, .Name u pz] kt pt] (.Tuple [a, b, c] k2 pt2) pos.line X.env = pure false := by rfl) :
    DS X (.Assign [.Tuple [.Name y px, .Name z py, .Name u pz] kt pt] (.Tuple [a, b, c] k2 pt2) pos) (tPar3 i j l t) (mPar3 i j l MA) := ds_par3 (ps_par3 hc hN hi hj hl hij hil hjl hx hy hz h.pa hw hs) h.sa
theorem dg_subE {vs : List Nat} (ho : DE X a to Mo) (hi : DE X b tb Mb)
    (ha : ∀ v, assign (.Subscript a b pos) X.env v = (do
      let ov ← holding [v] (eval a X.env)
      let iv ← holding [v, ov] (eval b X.env)
      standAt pos
      holding [v, ov, iv] (setItem ov iv v)
      release [v, ov, iv] []) := by intro _; rfl) : DG X (.Subscript a b pos) (gSub to tb rSetL) (mgSub Mo Mb) vs := dg_sub (pg_sub ho.pe hi.pe set_list ha) ho.se hi.se
theorem de_appendE (ho : DE X a to Mo) (h : DA X (e :: es) t MA)
    (hbase : attributeBase a "append" X.env (eval a X.env) = eval a X.env := by rfl)
    (hfew : ((backTo cpos (starEach (e :: es) X.env)).all (fun x => !x.1) && (backToKw cpos (keywordEach [] X.env)).all (fun x => x.1.isSome)
      && decide ((e :: es).length + ([] : List Keyword).length + (if ([] : List Keyword).isEmpty then 0 else 1) < 30)) = true := by rfl)
    (hline : (apos.endLine == cpos.line) = true := by rfl) (hs : starEach (e :: es) X.env = (false, eval e X.env) :: starEach es X.env := by rfl) (hplain : (backTo cpos (starEach es X.env)).any (·.1) = false := by rfl) :
    DE X (.Call (.Attribute a "append" apos) (e :: es) [] cpos) (tBM X.K "list" rAppend to t) (mAppend Mo MA) := de_append (pe_bm PySem.F.plainAttrs_list PySem.F.slot_list_append PySem.F.type_list_append mt_append ho.pe h.pa hbase hfew hline hs hplain) ho.se h.sa
theorem de_popE (ho : DE X a to Mo) (h : DA X (e :: es) t MA)
    (hbase : attributeBase a "pop" X.env (eval a X.env) = eval a X.env := by rfl)
    (hfew : ((backTo cpos (starEach (e :: es) X.env)).all (fun x => !x.1) && (backToKw cpos (keywordEach [] X.env)).all (fun x => x.1.isSome)
      && decide ((e :: es).length + ([] : List Keyword).length + (if ([] : List Keyword).isEmpty then 0 else 1) < 30)) = true := by rfl)
    (hline : (apos.endLine == cpos.line) = true := by rfl) (hs : starEach (e :: es) X.env = (false, eval e X.env) :: starEach es X.env := by rfl) (hplain : (backTo cpos (starEach es X.env)).any (·.1) = false := by rfl) :
    DE X (.Call (.Attribute a "pop" apos) (e :: es) [] cpos) (tBM X.K "list" rPopAt to t) (mPop Mo MA) := de_pop (pe_bm PySem.F.plainAttrs_list PySem.F.slot_list_pop PySem.F.type_list_pop mt_popAt ho.pe h.pa hbase hfew hline hs hplain) ho.se h.sa
theorem de_popC (hK : X.K = K) (ho : DE X a to Mo) (h : DA X (e :: es) t MA)
    (hbase : attributeBase a "pop" X.env (eval a X.env) = eval a X.env := by rfl)
    (hfew : ((backTo cpos (starEach (e :: es) X.env)).all (fun x => !x.1) && (backToKw cpos (keywordEach [] X.env)).all (fun x => x.1.isSome)
      && decide ((e :: es).length + ([] : List Keyword).length + (if ([] : List Keyword).isEmpty then 0 else 1) < 30)) = true := by rfl)
    (hline : (apos.endLine == cpos.line) = true := by rfl) (hs : starEach (e :: es) X.env = (false, eval e X.env) :: starEach es X.env := by rfl) (hplain : (backTo cpos (starEach es X.env)).any (·.1) = false := by rfl) :
    DE X (.Call (.Attribute a "pop" apos) (e :: es) [] cpos) (tBM K "list" rPopAt to t) (mPop Mo MA) := by
  subst hK
  exact de_popE ho h hbase hfew hline hs hplain
theorem de_joinE (ho : DE X a to Mo) (he : DE X e te Me) (hs : starEach [e] X.env = [(false, eval e X.env)] := by rfl) (hbase : attributeBase a "join" X.env (eval a X.env) = eval a X.env := by rfl) (hline : (apos.endLine == cpos.line) = true := by rfl) :
    DE X (.Call (.Attribute a "join" apos) [e] [] cpos) (tJoin X.K to te) (mOp oJoin (fun δ μ P => Mo δ μ fun x μ1 => (∃ s, x = .dat (.str s)) ∧ P x μ1) Me) := de_join (pe_join ho.pe he.pe hs hbase hline) ho.se he.se
theorem de_upperE (ho : DE X a to Mo) (hbase : attributeBase a "upper" X.env (eval a X.env) = eval a X.env := by rfl) (hline : (apos.endLine == cpos.line) = true := by rfl) :
    DE X (.Call (.Attribute a "upper" apos) [] [] cpos) (tUpper to) (mUn oUpper Mo) := de_upper (pe_upper ho.pe hbase hline) ho.se
variable {tg : Expr}
theorem di_strE (h : DE X e te Me) : DI X tg e (iStr te) (miS Me) := di_str h (pi_str h.pe)
theorem di_rangeE (gl : Gl X "range") (hm : X.mg "range" = none) (h : DA X [a] t MA) (hs : starEach [a] X.env = [(false, eval a X.env)] := by rfl) :
    DI X tg (.Call (.Name "range" p) [a] [] pos) (iRng1 t) (miR MA) := di_range (pi_range1 gl hm h.pa hs) h.sa
theorem di_enumE {elts : List Expr} {kk : Nat} {tpos : Pos} (gl : Gl X "enumerate") (hm : X.mg "enumerate" = none) (h : DA X [a] t MA) (hs : starEach [a] X.env = [(false, eval a X.env)] := by rfl) :
    DI X (.Tuple elts kk tpos) (.Call (.Name "enumerate" p) [a] [] pos) (iEnum X.K t) (miE MA) := di_enum (pi_enum gl hm h.pa hs) h.sa
theorem di_zipE {elts : List Expr} {kk : Nat} {tpos : Pos} (gl : Gl X "zip") (hm : X.mg "zip" = none) (h : DA X [a, b] t MA) (hs : starEach [a, b] X.env = (false, eval a X.env) :: starEach [b] X.env := by rfl) (hpl : (backTo pos (starEach [b] X.env)).any (·.1) = false := by rfl) :
    DI X (.Tuple elts kk tpos) (.Call (.Name "zip" p) [a, b] [] pos) (iZipA X.K t) (miZ MA) := di_zip (pi_zipA gl hm h.pa hs hpl) h.sa
/-! repr, and + of two of one sort -/
def oRepr : DO1 := fun a μ P => ∃ d : PyData, a = .dat d ∧ d.showable = true ∧ d.hasDict = false ∧ d.depth ≤ 60 ∧ d.shown.length ≤ sizeLine ∧ P (.dat (.str d.shown)) μ
theorem so_repr : SO1 K (fun x H Q => rRepr K [x] H Q) oRepr := fun y H Q a μ P hm rx ⟨d, e1, h1, h2, h3, h4, q⟩ c => by
  subst e1
  exact ⟨y, d, rfl, dp_mono (hid_same H μ) (dp_up rx), h1, h2, h3, h4, c.here hm (rS _) q⟩
def oCatU : DO2 := fun a b μ P => oCatL a b μ P ∨ oCatT a b μ P
theorem so_catU : SO2 K (fun x y H Q => rCatS x y H Q ∨ rCatA K x y H Q) oCatU := fun x y H Q a b μ P hm rx ry h c => by
  rcases h with h | h
  · exact .inl (so_catL x y H Q a b μ P hm rx ry h c)
  · exact .inr (so_catT x y H Q a b μ P hm rx ry h c)
theorem op_catU : OpR X (binaryOp .Add) (fun x y H Q => rCatS x y H Q ∨ rCatA X.K x y H Q) := OpR.or op_catS op_catA
end
end DL

namespace DL
open PySem PySem.Spec PyProof.Rows L2 RZ
/-! data of which all that is asked comes out: small leaves -/
def ib : Nat → Nat
  | 0 => 1000
  | n + 1 => ib n + 1000000001
theorem ib_mono {n m : Nat} (h : n ≤ m) : ib n ≤ ib m := by
  induction h with
  | refl => exact Nat.le_refl _
  | step _ ih => exact Nat.le_trans ih (Nat.le_add_right _ _)
mutual
def fine (n : Nat) : PyData → Bool
  | .none => true
  | .bool _ => true
  | .int i => decide (i.natAbs ≤ ib n)
  | .str s => s.cps.toList.all (fun c => decide (c < 128)) && decide (s.length ≤ 20 + n)
  | .list xs => fineAll n xs
  | .tuple xs => fineAll n xs
  | .dict _ => false
def fineAll (n : Nat) : List PyData → Bool
  | [] => true
  | x :: xs => fine n x && fineAll n xs
end
mutual
def sz : PyData → Nat
  | .none => 1
  | .bool _ => 1
  | .int _ => 1
  | .str _ => 1
  | .list xs => 1 + szAll xs
  | .tuple xs => 1 + szAll xs
  | .dict _ => 1
def szAll : List PyData → Nat
  | [] => 0
  | x :: xs => sz x + szAll xs
end
theorem fineAll_iff {n : Nat} : ∀ {xs : List PyData}, fineAll n xs = true ↔ ∀ x ∈ xs, fine n x = true
  | [] => by simp [fineAll]
  | x :: xs => by simp [fineAll, fineAll_iff (xs := xs)]
theorem sz_pos : ∀ d : PyData, 1 ≤ sz d
  | .none => Nat.le_refl _
  | .bool _ => Nat.le_refl _
  | .int _ => Nat.le_refl _
  | .str _ => Nat.le_refl _
  | .list xs => by unfold sz; omega
  | .tuple xs => by unfold sz; omega
  | .dict _ => Nat.le_refl _
theorem szAll_append : ∀ xs ys : List PyData, szAll (xs ++ ys) = szAll xs + szAll ys
  | [], ys => by simp [szAll]
  | x :: xs, ys => by simp only [List.cons_append, szAll, szAll_append xs ys]; omega
theorem szAll_len : ∀ xs : List PyData, xs.length ≤ szAll xs
  | [] => Nat.le_refl _
  | x :: xs => by
    have h1 := sz_pos x
    have h2 := szAll_len xs
    simp only [List.length_cons, szAll]
    omega
theorem szAll_mem : ∀ {xs : List PyData} {x : PyData}, x ∈ xs → sz x ≤ szAll xs
  | y :: ys, x, h => by
    rcases List.mem_cons.mp h with e | e
    · subst e
      simp only [szAll]
      omega
    · have := szAll_mem e
      simp only [szAll]
      omega
theorem szAll_take : ∀ (k : Nat) (xs : List PyData), szAll (xs.take k) ≤ szAll xs
  | 0, xs => by simp [szAll]
  | k + 1, [] => by simp [szAll]
  | k + 1, x :: xs => by
    have := szAll_take k xs
    simp only [List.take_succ_cons, szAll]
    omega
theorem szAll_drop : ∀ (k : Nat) (xs : List PyData), szAll (xs.drop k) ≤ szAll xs
  | 0, xs => by simp
  | k + 1, [] => by simp [szAll]
  | k + 1, x :: xs => by
    have := szAll_drop k xs
    simp only [List.drop_succ_cons, szAll]
    omega
theorem depthAll_mem : ∀ {xs : List PyData} {x : PyData}, x ∈ xs → x.depth ≤ PyData.depthAll xs
  | y :: ys, x, h => by
    rcases List.mem_cons.mp h with e | e
    · subst e
      simp only [PyData.depthAll]
      omega
    · have := depthAll_mem e
      simp only [PyData.depthAll]
      omega
theorem depthAll_le {m : Nat} : ∀ {xs : List PyData}, (∀ x ∈ xs, x.depth ≤ m) → PyData.depthAll xs ≤ m
  | [], _ => by simp [PyData.depthAll]
  | y :: ys, h => by
    have h1 := h y List.mem_cons_self
    have h2 := depthAll_le (xs := ys) fun x hx => h x (List.mem_cons_of_mem _ hx)
    simp only [PyData.depthAll]
    omega
mutual
theorem fine_mono {n m : Nat} (h : n ≤ m) : ∀ {d : PyData}, fine n d = true → fine m d = true
  | .none, _ => by simp [fine]
  | .bool _, _ => by simp [fine]
  | .int i, q => by
    simp only [fine, decide_eq_true_eq] at q ⊢
    exact Nat.le_trans q (ib_mono h)
  | .str s, q => by
    simp only [fine, Bool.and_eq_true, decide_eq_true_eq] at q ⊢
    exact ⟨q.1, by omega⟩
  | .list xs, q => by simp only [fine] at q ⊢; exact fineAll_mono h q
  | .tuple xs, q => by simp only [fine] at q ⊢; exact fineAll_mono h q
  | .dict _, q => by simp [fine] at q
theorem fineAll_mono {n m : Nat} (h : n ≤ m) : ∀ {xs : List PyData}, fineAll n xs = true → fineAll m xs = true
  | [], _ => by simp [fineAll]
  | x :: xs, q => by
    simp only [fineAll, Bool.and_eq_true] at q ⊢
    exact ⟨fine_mono h q.1, fineAll_mono h q.2⟩
end
mutual
theorem fine_lay {n : Nat} : ∀ {d : PyData}, fine n d = true → d.canLay0 = true
  | .none, _ => by simp [PyData.canLay0]
  | .bool _, _ => by simp [PyData.canLay0]
  | .int i, q => by simp [PyData.canLay0]
  | .str s, q => by
    simp only [fine, Bool.and_eq_true, List.all_eq_true, decide_eq_true_eq] at q
    simp only [PyData.canLay0, PyData.strOk, ← Array.all_toList, List.all_eq_true, decide_eq_true_eq]
    intro c hc
    have := q.1 c hc
    omega
  | .list xs, q => by simp only [fine] at q; simp only [PyData.canLay0]; exact fineAll_lay q
  | .tuple xs, q => by simp only [fine] at q; simp only [PyData.canLay0]; exact fineAll_lay q
  | .dict _, q => by simp [fine] at q
theorem fineAll_lay {n : Nat} : ∀ {xs : List PyData}, fineAll n xs = true → PyData.canLayAll0 xs = true
  | [], _ => by simp [PyData.canLayAll0]
  | x :: xs, q => by
    simp only [fineAll, Bool.and_eq_true] at q
    simp only [PyData.canLayAll0, Bool.and_eq_true]
    exact ⟨fine_lay q.1, fineAll_lay q.2⟩
end
theorem fine_shaped {n : Nat} {d : PyData} (h : fine n d = true) (hd : d.depth ≤ 64) : SeqAt.shaped d = true := by
  show (d.canLay0 && decide (d.depth ≤ 64)) = true
  rw [Bool.and_eq_true]
  exact ⟨fine_lay h, decide_eq_true hd⟩
theorem natAbs_log {i : Int} {k : Nat} (hk : 0 < k) (h : i.natAbs < 2 ^ k) : i.natAbs.log2 < k := PySem.Flt.log2_lt_of hk h
theorem int_short {n : Nat} (hn : n ≤ 3) {i : Int} (h : i.natAbs ≤ ib n) : i.natAbs < 10 ^ 12 := by
  exact Nat.lt_of_le_of_lt (Nat.le_trans h (ib_mono hn)) (by decide)
mutual
theorem fine_show {n : Nat} (hn : n ≤ 3) : ∀ {d : PyData}, fine n d = true → d.showable = true ∧ d.hasDict = false ∧ d.leavesShort 13 = true ∧ d.weight + 10 ≤ 60 * sz d
  | .none, _ => by simp [PyData.showable, PyData.hasDict, PyData.leavesShort, PyData.weight, sz]
  | .bool _, _ => by simp [PyData.showable, PyData.hasDict, PyData.leavesShort, PyData.weight, sz]
  | .int i, q => by
    simp only [fine, decide_eq_true_eq] at q
    have h := int_short hn q
    have h40 : i.natAbs < 2 ^ 40 := Nat.lt_of_lt_of_le h (by decide)
    have hl := natAbs_log (by decide) h40
    refine ⟨?_, by simp [PyData.hasDict], ?_, ?_⟩
    · simp only [PyData.showable, decide_eq_true_eq]
      omega
    · simp only [PyData.leavesShort, decide_eq_true_eq, PyData.shown_int]
      rw [PySem.ofString_length]
      exact int_text_length_le10 (k := 12) (by decide) h
    · simp only [PyData.weight, sz]
      split <;> omega
  | .str s, q => by
    simp only [fine, Bool.and_eq_true, List.all_eq_true, decide_eq_true_eq] at q
    refine ⟨by simp [PyData.showable], by simp [PyData.hasDict], ?_, ?_⟩
    · simp only [PyData.leavesShort, List.all_eq_true, decide_eq_true_eq]
      intro c hc
      have := q.1 c hc
      exact Nat.lt_of_lt_of_le this (by decide)
    · simp only [PyData.weight, sz]
      have h2 : s.cps.size ≤ 20 + n := q.2
      omega
  | .list xs, q => by
    simp only [fine] at q
    obtain ⟨h1, h2, h3, h4⟩ := fineAll_show hn q
    refine ⟨by simp only [PyData.showable]; exact h1, by simp only [PyData.hasDict]; exact h2, by simp only [PyData.leavesShort]; exact h3, ?_⟩
    simp only [PyData.weight, sz]
    omega
  | .tuple xs, q => by
    simp only [fine] at q
    obtain ⟨h1, h2, h3, h4⟩ := fineAll_show hn q
    refine ⟨by simp only [PyData.showable]; exact h1, by simp only [PyData.hasDict]; exact h2, by simp only [PyData.leavesShort]; exact h3, ?_⟩
    simp only [PyData.weight, sz]
    omega
  | .dict _, q => by simp [fine] at q
theorem fineAll_show {n : Nat} (hn : n ≤ 3) : ∀ {xs : List PyData}, fineAll n xs = true → PyData.showableAll xs = true ∧ PyData.hasDictAll xs = false ∧ PyData.leavesShortAll 13 xs = true ∧ PyData.weightAll xs ≤ 60 * szAll xs
  | [], _ => by simp [PyData.showableAll, PyData.hasDictAll, PyData.leavesShortAll, PyData.weightAll]
  | x :: xs, q => by
    simp only [fineAll, Bool.and_eq_true] at q
    obtain ⟨h1, h2, h3, h4⟩ := fine_show hn q.1
    obtain ⟨g1, g2, g3, g4⟩ := fineAll_show hn q.2
    refine ⟨by simp [PyData.showableAll, h1, g1], by simp [PyData.hasDictAll, h2, g2], by simp [PyData.leavesShortAll, h3, g3], ?_⟩
    have hp := sz_pos x
    simp only [PyData.weightAll, szAll]
    omega
end

/-- what all that is asked of data comes out of -/
structure Ok (n b m : Nat) (d : PyData) : Prop where
  fn : fine n d = true
  sz : sz d ≤ b
  dp : d.depth ≤ m
theorem Ok.shaped {n b m : Nat} {d : PyData} (h : Ok n b m d) (hm : m ≤ 60) : SeqAt.shaped d = true := fine_shaped h.fn (Nat.le_trans h.dp (by omega))
theorem Ok.shown {n b m : Nat} {d : PyData} (h : Ok n b m d) (hn : n ≤ 3) (hb : b ≤ 10000) (hm : m ≤ 60) : d.showable = true ∧ d.hasDict = false ∧ d.depth ≤ 60 ∧ d.shown.length ≤ sizeLine := by
  obtain ⟨h1, h2, h3, h4⟩ := fine_show hn h.fn
  refine ⟨h1, h2, Nat.le_trans h.dp hm, ?_⟩
  have h5 := PyData.shown_le 13 (by decide) d h3
  have h6 := h.sz
  rw [sizeLine_eq]
  omega
theorem Ok.len {n b m : Nat} {s : Str} (h : Ok n b m (.str s)) : s.length ≤ 20 + n := by
  have := h.fn
  simp only [fine, Bool.and_eq_true, decide_eq_true_eq] at this
  exact this.2
theorem Ok.le {n b m n' b' m' : Nat} {d : PyData} (h : Ok n b m d) (h1 : n ≤ n') (h2 : b ≤ b') (h3 : m ≤ m') : Ok n' b' m' d := ⟨fine_mono h1 h.fn, Nat.le_trans h.sz h2, Nat.le_trans h.dp h3⟩
/-- the items of data -/
theorem Ok.item {n b m : Nat} {d : PyData} {ds : List PyData} (h : Ok n b m d) (e : itemsD d = some ds) {x : PyData} (hx : x ∈ ds) : Ok n b m x ∧ x.depth + 1 ≤ m := by
  have hf := h.fn
  have hs := h.sz
  have hd := h.dp
  cases d <;> simp only [itemsD, Option.some.injEq, reduceCtorEq] at e <;> subst e
  · simp only [fine] at hf
    simp only [DL.sz] at hs
    simp only [PyData.depth] at hd
    have h1 := szAll_mem hx
    have h2 := depthAll_mem hx
    exact ⟨⟨fineAll_iff.mp hf x hx, by omega, by omega⟩, by omega⟩
  · simp only [fine] at hf
    simp only [DL.sz] at hs
    simp only [PyData.depth] at hd
    have h1 := szAll_mem hx
    have h2 := depthAll_mem hx
    exact ⟨⟨fineAll_iff.mp hf x hx, by omega, by omega⟩, by omega⟩
theorem Ok.items_len {n b m : Nat} {d : PyData} {ds : List PyData} (h : Ok n b m d) (e : itemsD d = some ds) : ds.length + 1 ≤ b := by
  have hs := h.sz
  have hl := szAll_len ds
  cases d <;> simp only [itemsD, Option.some.injEq, reduceCtorEq] at e
  · rw [e] at hs
    simp only [DL.sz] at hs
    omega
  · rw [e] at hs
    simp only [DL.sz] at hs
    omega
end DL

namespace DL
open PySem PySem.Spec PyProof.Rows L2 RZ
/-- a comprehension without tests whose element is a function of the item -/
theorem mset_none {μ : Mu} {D : Addr} {o : Option MO} (h : μ D = none) : mset (mset μ D o) D none = μ := by
  funext b
  unfold mset
  by_cases e : b = D
  · rw [if_pos e, e, h]
  · rw [if_neg e, if_neg e]
theorem mset_mset {μ : Mu} {D : Addr} {o u : Option MO} : mset (mset μ D o) D u = mset μ D u := by
  funext b
  unfold mset
  by_cases e : b = D
  · rw [if_pos e, if_pos e]
  · rw [if_neg e, if_neg e, if_neg e]
theorem mset_comm {μ : Mu} {a b : Addr} {o u : Option MO} (h : a ≠ b) : mset (mset μ a o) b u = mset (mset μ b u) a o := by
  funext c
  unfold mset
  by_cases e : c = b
  · rw [if_pos e, if_neg (fun z => h (z.symm.trans e)), if_pos e]
  · rw [if_neg e, if_neg e]
theorem take_map_succ {α β : Type} (f : α → β) {l : List α} {i : Nat} {d : α} (h : l[i]? = some d) : (l.take (i + 1)).map f = (l.take i).map f ++ [f d] := by
  rw [List.take_add_one, h, List.map_append]
  rfl
theorem lc_pure {MI : DIx} {G : DGx} {ME : DEx} {vs : List Nat} {δ : Dl} {μ : Mu} {P : DV} (ds : List PyData) (f : PyData → PyData) (hi : ∀ R : List PyData → Mu → Prop, R ds μ → MI δ μ R) (hz : ds.length ≤ sizeLine)
    (h : ∀ d ∈ ds, ∀ (μ' : Mu) (R : DV), R (.dat (f d)) μ' → G (.dat d) (wipeD δ vs) μ' fun δ2 μ2 => ME δ2 μ2 R) (hP : P (.dat (.list (ds.map f))) μ) : mLc MI G (fun _ μ P => P true μ) ME vs δ μ P := by
  refine hi _ ⟨hz, fun D hD => ⟨fun i acc μ' => acc = (ds.take i).map f ∧ μ' = mset μ D (cellA acc), ⟨by simp, rfl⟩, fun i d acc μ' hd ⟨ha, hm⟩ hc => ?_, fun acc μ' ⟨ha, hm⟩ _ => ?_⟩⟩
  · refine h d (List.mem_of_getElem? hd) μ' _ ⟨f d, rfl, hc, ?_, ?_⟩
    · rw [ha, take_map_succ f hd]
    · rw [hm, mset_mset]
  · rw [List.take_length] at ha
    rw [ha, hm, mset_none hD]
    exact hP
/-- .. all of its truths -/
theorem all_map (ds : List PyData) (g : PyData → Bool) (Q : DV) (μ : Mu) (h : Q (.dat (.bool (ds.all g))) μ) : oAll (.dat (.list (ds.map fun d => .bool (g d)))) μ Q := by
  refine ⟨ds.map g, by rw [List.map_map]; rfl, ?_⟩
  have e : (ds.map g).all id = ds.all g := by
    rw [List.all_map]
    rfl
  rw [e]
  exact h
/-- a comprehension whose element changes cells: J holds of the cells at each turn, p of each element -/
theorem lc_inv {MI : DIx} {G : DGx} {ME : DEx} {vs : List Nat} {δ : Dl} {μ μ1 : Mu} {P : DV} (J : Nat → Mu → Prop) (p : PyData → Prop) (ds : List PyData) (hi : ∀ R : List PyData → Mu → Prop, R ds μ1 → MI δ μ R) (hz : ds.length ≤ sizeLine)
    (hJ : ∀ i μ' D o, μ1 D = none → J i μ' → J i (mset μ' D o)) (h0 : J 0 μ1)
    (h : ∀ i d, ds[i]? = some d → ∀ (μ' : Mu) (R : DV), J i μ' → (∀ e μ2, p e → J (i + 1) μ2 → (∀ D, μ1 D = none → μ2 D = μ' D) → R (.dat e) μ2) → G (.dat d) (wipeD δ vs) μ' fun δ2 μ2 => ME δ2 μ2 R)
    (hP : ∀ acc μ', acc.length = ds.length → (∀ e ∈ acc, p e) → J ds.length μ' → (∀ b, μ1 b = none → μ' b = none) → P (.dat (.list acc)) μ') : mLc MI G (fun _ μ P => P true μ) ME vs δ μ P := by
  refine hi _ ⟨hz, fun D hD => ⟨fun i acc μ' => acc.length = i ∧ (∀ e ∈ acc, p e) ∧ J i μ' ∧ (∀ b, μ1 b = none → b ≠ D → μ' b = none), ⟨rfl, by simp, hJ 0 μ1 D _ hD h0, fun b hb hn => by rw [mset_ne hn]; exact hb⟩, fun i d acc μ' hd ⟨w1, w2, w3, w4⟩ hc => ?_, fun acc μ' ⟨w1, w2, w3, w4⟩ _ => ?_⟩⟩
  · refine h i d hd μ' _ w3 fun e μ2 he hj hk => ⟨e, rfl, (hk D hD).trans hc, by rw [List.length_append]; simp [w1], fun x hx => ?_, hJ _ μ2 D _ hD hj, fun b hb hn => ?_⟩
    · rcases List.mem_append.mp hx with q | q
      · exact w2 x q
      · rw [List.mem_singleton.mp q]
        exact he
    · rw [mset_ne hn, hk b hb]
      exact w4 b hb hn
  · refine hP acc _ w1 w2 (hJ _ μ' D _ hD w3) fun b hb => ?_
    by_cases e : b = D
    · rw [e, mset_same]
    · rw [mset_ne e]
      exact w4 b hb e
/-- a loop over items that are known -/
theorem for_by {MI : DIx} {G : DGx} {M : DSx} {D : DEnds} {δ : Dl} {μ μ1 : Mu} (ds : List PyData) (hi : ∀ R : List PyData → Mu → Prop, R ds μ1 → MI δ μ R) (W : Nat → Dl → Mu → Prop) (h0 : W 0 δ μ1)
    (turn : ∀ i d δ' μ', ds[i]? = some d → W i δ' μ' → G (.dat d) δ' μ' fun δ2 μ2 => M { D with nx := W (i + 1), ct := W (i + 1), bk := D.nx } δ2 μ2) (done : ∀ δ' μ', W ds.length δ' μ' → D.nx δ' μ') : mFor MI G M D δ μ :=
  hi _ ⟨W, h0, turn, done⟩
section
variable {lo hi : Option Int} {ds es : List PyData} {z y : Str} {ns : List Int} {μ : Mu} {P : DV} {p : Addr} {n : Nat} {i j : Int} {r a : AV} {as : List AV} {k l : Bool} {δ : Dl} {R : Dl → Mu → Prop} {G : DGx} {Gs : List AV → Dl → Mu → (Dl → Mu → Prop) → Prop}
theorem oSl_l : oSl lo hi (.dat (.list ds)) μ P = P (.dat (.list (cutL ds lo hi))) μ := rfl
theorem oSl_t : oSl lo hi (.dat (.tuple ds)) μ P = P (.dat (.tuple (cutL ds lo hi))) μ := rfl
theorem oSl_s : oSl lo hi (.dat (.str z)) μ P = (z.length ≤ sizeLine ∧ P (.dat (.str (cutS z lo hi))) μ) := rfl
theorem oSl_r : oSl lo hi (.raw ns) μ P = P (.dat (.list ((cutL ns lo hi).map PyData.int))) μ := rfl
theorem LenD_s : LenD (.dat (.str z)) μ n = (z.length ≤ sizeLine ∧ n = z.length) := rfl
theorem LenD_l : LenD (.dat (.list ds)) μ n = (n = ds.length) := rfl
theorem LenD_t : LenD (.dat (.tuple ds)) μ n = (n = ds.length) := rfl
theorem LenD_m : LenD (.mut p) μ n = ∃ as, μ p = some (.lst as) ∧ n = as.length := rfl
theorem ixD_l : ixD (.dat (.list ds)) μ i r = ∃ d, r = .dat d ∧ atI ds i = some d := rfl
theorem ixD_t : ixD (.dat (.tuple ds)) μ i r = ∃ d, r = .dat d ∧ atI ds i = some d := rfl
theorem ixD_s : ixD (.dat (.str z)) μ i r = ∃ c, r = .dat (.str ⟨#[c]⟩) ∧ z.length ≤ sizeLine ∧ atI z.cps.toList i = some c := rfl
theorem ixD_m : ixD (.mut p) μ i r = ∃ as, μ p = some (.lst as) ∧ atI as i = some r := rfl
theorem itemsD_l : itemsD (.list ds) = some ds := rfl
theorem itemsD_t : itemsD (.tuple ds) = some ds := rfl
theorem eqD_i : eqD (.int i) (.int j) = some (decide (i = j)) := rfl
theorem eqD_b : eqD (.bool k) (.bool l) = some (decide (k = l)) := rfl
theorem eqD_s : eqD (.str z) (.str y) = some (decide (z = y)) := rfl
theorem mgCons_c : mgCons G Gs (a :: as) δ μ R = G a δ μ fun δ1 μ1 => Gs as δ1 μ1 R := rfl
theorem mgNil_n : mgNil [] δ μ R = R δ μ := rfl
theorem zipAs_l : zipAs [.dat (.list ds), .dat (.list es)] = some (zipD ds es) := rfl
theorem zipAs_t : zipAs [.dat (.tuple ds), .dat (.tuple es)] = some (zipD ds es) := rfl
end
theorem ix0 {α : Type} (a : α) (r : List α) : atI (a :: r) 0 = some a := atI_nat (j := 0) rfl
theorem ix1 {α : Type} (a b : α) (r : List α) : atI (a :: b :: r) 1 = some b := atI_nat (j := 1) rfl
theorem ix2 {α : Type} (a b c : α) (r : List α) : atI (a :: b :: c :: r) 2 = some c := atI_nat (j := 2) rfl
theorem ix3 {α : Type} (a b c d : α) (r : List α) : atI (a :: b :: c :: d :: r) 3 = some d := atI_nat (j := 3) rfl
end DL

namespace K1
open PySem PySem.Spec PyProof.Rows L2 RZ DL
def topS (i : Nat) : Stmt := PySem.Challenge.pw_hoarseheath_k01_plans_or_not.main.body.getD i (.Pass ⟨0, 0, 0, 0⟩)
abbrev s_is_number : Stmt := topS 3
abbrev N_is_number : List Str := ["thing"]
theorem sc_is_number : FnScope N_is_number ["thing"] (defScope s_is_number) := ⟨rfl, rfl, rfl, by decide +kernel, rfl, by decide +kernel, by decide +kernel⟩
abbrev s_is_number_within : Stmt := topS 4
abbrev N_is_number_within : List Str := ["thing", "least", "most"]
theorem sc_is_number_within : FnScope N_is_number_within ["thing", "least", "most"] (defScope s_is_number_within) := ⟨rfl, rfl, rfl, by decide +kernel, rfl, by decide +kernel, by decide +kernel⟩
abbrev s_is_name : Stmt := topS 5
abbrev N_is_name : List Str := ["thing", "sign"]
theorem sc_is_name : FnScope N_is_name ["thing"] (defScope s_is_name) := ⟨rfl, rfl, rfl, by decide +kernel, rfl, by decide +kernel, by decide +kernel⟩
abbrev s_is_tuple_within : Stmt := topS 6
abbrev N_is_tuple_within : List Str := ["thing", "least", "most"]
theorem sc_is_tuple_within : FnScope N_is_tuple_within ["thing", "least", "most"] (defScope s_is_tuple_within) := ⟨rfl, rfl, rfl, by decide +kernel, rfl, by decide +kernel, by decide +kernel⟩
abbrev s_is_rising : Stmt := topS 7
abbrev N_is_rising : List Str := ["row", "low", "high"]
theorem sc_is_rising : FnScope N_is_rising ["row"] (defScope s_is_rising) := ⟨rfl, rfl, rfl, by decide +kernel, rfl, by decide +kernel, by decide +kernel⟩
abbrev s_is_plan : Stmt := topS 14
abbrev N_is_plan : List Str := ["thing", "rest", "callers", "ways"]
theorem sc_is_plan : FnScope N_is_plan ["thing"] (defScope s_is_plan) := ⟨rfl, rfl, rfl, by decide +kernel, rfl, by decide +kernel, by decide +kernel⟩
abbrev s_are_callers : Stmt := topS 15
abbrev N_are_callers : List Str := ["thing", "caller"]
theorem sc_are_callers : FnScope N_are_callers ["thing"] (defScope s_are_callers) := ⟨rfl, rfl, rfl, by decide +kernel, rfl, by decide +kernel, by decide +kernel⟩
abbrev s_are_ways : Stmt := topS 16
abbrev N_are_ways : List Str := ["thing", "rest", "callers", "way"]
theorem sc_are_ways : FnScope N_are_ways ["thing", "rest", "callers"] (defScope s_are_ways) := ⟨rfl, rfl, rfl, by decide +kernel, rfl, by decide +kernel, by decide +kernel⟩
abbrev s_is_way : Stmt := topS 17
abbrev N_is_way : List Str := ["thing", "rest", "callers", "name", "one", "other", "beats"]
theorem sc_is_way : FnScope N_is_way ["thing", "rest", "callers"] (defScope s_is_way) := ⟨rfl, rfl, rfl, by decide +kernel, rfl, by decide +kernel, by decide +kernel⟩
abbrev s_law_tape : Stmt := topS 19
abbrev N_law_tape : List Str := ["script", "k", "cell"]
theorem sc_law_tape : FnScope N_law_tape ["script", "k"] (defScope s_law_tape) := ⟨rfl, rfl, rfl, by decide +kernel, rfl, by decide +kernel, by decide +kernel⟩
abbrev s_law_draw : Stmt := topS 20
abbrev N_law_draw : List Str := ["tape", "many", "found", "once", "twice", "wide"]
theorem sc_law_draw : FnScope N_law_draw ["tape", "many"] (defScope s_law_draw) := ⟨rfl, rfl, rfl, by decide +kernel, rfl, by decide +kernel, by decide +kernel⟩
abbrev s_law_folded : Stmt := topS 21
abbrev N_law_folded : List Str := ["script", "many", "cells", "k", "cell"]
theorem sc_law_folded : FnScope N_law_folded ["script", "many"] (defScope s_law_folded) := ⟨rfl, rfl, rfl, by decide +kernel, rfl, by decide +kernel, by decide +kernel⟩
abbrev s_law_names : Stmt := topS 22
abbrev N_law_names : List Str := ["tape", "many", "letters", "shift", "stem", "at", "step", "found", "head", "tail", "k", "way", "sign"]
theorem sc_law_names : FnScope N_law_names ["tape", "many"] (defScope s_law_names) := ⟨rfl, rfl, rfl, by decide +kernel, rfl, by decide +kernel, by decide +kernel⟩
abbrev s_law_part : Stmt := topS 23
abbrev N_law_part : List Str := ["tape", "some", "many", "left", "k"]
theorem sc_law_part : FnScope N_law_part ["tape", "some", "many"] (defScope s_law_part) := ⟨rfl, rfl, rfl, by decide +kernel, rfl, by decide +kernel, by decide +kernel⟩
abbrev s_law_is_number : Stmt := topS 24
abbrev N_law_is_number : List Str := ["a_thing"]
theorem sc_law_is_number : FnScope N_law_is_number ["a_thing"] (defScope s_law_is_number) := ⟨rfl, rfl, rfl, by decide +kernel, rfl, by decide +kernel, by decide +kernel⟩
abbrev s_law_leaf : Stmt := topS 25
abbrev N_law_leaf : List Str := ["tape", "a_thing", "step"]
theorem sc_law_leaf : FnScope N_law_leaf ["tape", "a_thing"] (defScope s_law_leaf) := ⟨rfl, rfl, rfl, by decide +kernel, rfl, by decide +kernel, by decide +kernel⟩
abbrev s_law_row_bent : Stmt := topS 26
abbrev N_law_row_bent : List Str := ["tape", "a_thing", "at", "step", "front", "here", "back", "new", "some"]
theorem sc_law_row_bent : FnScope N_law_row_bent ["tape", "a_thing"] (defScope s_law_row_bent) := ⟨rfl, rfl, rfl, by decide +kernel, rfl, by decide +kernel, by decide +kernel⟩
abbrev s_law_bent : Stmt := topS 27
abbrev N_law_bent : List Str := ["tape", "a_thing", "deep", "at", "one"]
theorem sc_law_bent : FnScope N_law_bent ["tape", "a_thing", "deep"] (defScope s_law_bent) := ⟨rfl, rfl, rfl, by decide +kernel, rfl, by decide +kernel, by decide +kernel⟩
abbrev s_law_is_name : Stmt := topS 28
abbrev N_law_is_name : List Str := ["a_thing", "sign"]
theorem sc_law_is_name : FnScope N_law_is_name ["a_thing"] (defScope s_law_is_name) := ⟨rfl, rfl, rfl, by decide +kernel, rfl, by decide +kernel, by decide +kernel⟩
abbrev s_law_rise : Stmt := topS 29
abbrev N_law_rise : List Str := ["names", "one", "two"]
theorem sc_law_rise : FnScope N_law_rise ["names"] (defScope s_law_rise) := ⟨rfl, rfl, rfl, by decide +kernel, rfl, by decide +kernel, by decide +kernel⟩
abbrev s_law_is_way : Stmt := topS 30
abbrev N_law_is_way : List Str := ["rest", "callers", "a_thing"]
theorem sc_law_is_way : FnScope N_law_is_way ["rest", "callers", "a_thing"] (defScope s_law_is_way) := ⟨rfl, rfl, rfl, by decide +kernel, rfl, by decide +kernel, by decide +kernel⟩
abbrev s_law_due : Stmt := topS 31
abbrev N_law_due : List Str := ["a_thing", "rest", "callers", "ways", "one"]
theorem sc_law_due : FnScope N_law_due ["a_thing"] (defScope s_law_due) := ⟨rfl, rfl, rfl, by decide +kernel, rfl, by decide +kernel, by decide +kernel⟩
abbrev s_law_plan : Stmt := topS 32
abbrev N_law_plan : List Str := ["tape", "many", "names", "rest", "callers", "ways", "top", "name", "pair"]
theorem sc_law_plan : FnScope N_law_plan ["tape"] (defScope s_law_plan) := ⟨rfl, rfl, rfl, by decide +kernel, rfl, by decide +kernel, by decide +kernel⟩
abbrev s_law_right : Stmt := topS 33
abbrev N_law_right : List Str := ["a_thing", "kept", "due", "told", "one"]
theorem sc_law_right : FnScope N_law_right ["a_thing"] (defScope s_law_right) := ⟨rfl, rfl, rfl, by decide +kernel, rfl, by decide +kernel, by decide +kernel⟩
abbrev s_law : Stmt := topS 34
abbrev N_law : List Str := ["script", "cells", "k", "tape", "turn", "plan", "again", "a_thing", "odd"]
theorem sc_law : FnScope N_law ["script"] (defScope s_law) := ⟨rfl, rfl, rfl, by decide +kernel, rfl, by decide +kernel, by decide +kernel⟩
/-- what the top has written, as far as the defs ask -/
structure Txt (K : PySem.W.Frag) (mg : Str → Option Value) : Prop where
  n_isinstance : mg "isinstance" = none
  n_len : mg "len" = none
  n_all : mg "all" = none
  n_zip : mg "zip" = none
  n_range : mg "range" = none
  n_enumerate : mg "enumerate" = none
  n_sorted : mg "sorted" = none
  n_abs : mg "abs" = none
  n_max : mg "max" = none
  n_min : mg "min" = none
  n_repr : mg "repr" = none
  n_int : mg "int" = none
  n_str : mg "str" = none
  n_bool : mg "bool" = none
  n_list : mg "list" = none
  n_tuple : mg "tuple" = none
  c_LETTERS : ∃ u, mg "LETTERS" = some u ∧ RelV (.str "abcdefghijklmnopqrstuvwxyz") u
  c_LONGEST_NAME : ∃ u, mg "LONGEST_NAME" = some u ∧ RelV (.int 8) u
  c_CALLERS : ∃ u, mg "CALLERS" = some u ∧ RelV (.int 8) u
  c_WAYS : ∃ u, mg "WAYS" = some u ∧ RelV (.int 10) u
  c_BEATS : ∃ u, mg "BEATS" = some u ∧ RelV (.int 6) u
  c_REST : ∃ u, mg "REST" = some u ∧ RelV (.int 24) u
  c_LEAST_REST : ∃ u, mg "LEAST_REST" = some u ∧ RelV (.int 3) u

local macro_rules | `(tactic| walk_at "dl") => `(tactic| simp [and_assoc, mRet, mAnd, mOr, mCall, mCons, mVar, mCls, mNil, mC, oIsi, oIsi2, mNot, startD, mSeq, mIfS, mTOr, mTAnd, mTNot, mTest, mChain, mNext, oA1, oA2, oIB, oII, oII0, mOp, mUn, mAsg, mgName, mgTup, mgCons_c, mgNil_n, zipAs_l, zipAs_t, oSl_l, oSl_t, oSl_s, oSl_r, mPart, mSl, mIf, wipeD, oSign, oSS, oLen, LenD_s, LenD_l, LenD_t, LenD_m, miZ, miS, miT, miL, miE, miR, oEq, oNe, eqD_i, eqD_b, eqD_s, oInT, oIx, ixD_l, ixD_t, ixD_s, ixD_m, ix0, ix1, ix2, ix3, oAbs, oInt, oMax, oMin, mPar, mPar3, mTup, mLst, mLstM, asD, mExpr, itemsD_l, itemsD_t, oNeg, mgSub, mset_same, isStr, isTup, isLst, isBool, DL.isInt])
section
variable {P : Program} {w : World} {K : PySem.W.Frag} {mg : Str → Option Value} {base : Heap}
def isNum : PyData → Bool
  | .int _ => true
  | _ => false
def d_is_number : DOs := fun as μ Q => ∃ d, as = [.dat d] ∧ Q (.dat (.bool (isNum d))) μ
theorem ok_is_number (T : Txt K mg) {f : Addr} {fd : FuncData} (D : DefAt K mg "is_number" s_is_number ["thing"] f fd) : Prm P w K mg base 1 "is_number" 1 d_is_number := by
  refine prm_of D sc_is_number rfl (fun as μ Q ⟨d, e, _⟩ => by rw [e]; rfl) fun cdv A out s H hr hg => ⟨_, _,
(db_one (ds_ret (de_and (de_callB call_isi (so_isi k_int) (by rfl) T.n_isinstance (by decide +kernel) (da_cons (de_var (pv 0)) (da_cons (de_cls (pe_bltn (v := .ty "int") (by rfl) T.n_int (by decide +kernel) rfl)) da_nil))) (de_one (de_not (de_callB call_isi (so_isi k_bool) (by rfl) T.n_isinstance (by decide +kernel) (da_cons (de_var (pv 0)) (da_cons (de_cls (pe_bltn (v := .ty "bool") (by rfl) T.n_bool (by decide +kernel) rfl)) da_nil))))))))
    , fun as μ Q ⟨d, e, q⟩ => ?_⟩
  subst e
  cases d <;> walk_at "dl" <;> exact q
theorem ok_law_is_number (T : Txt K mg) {f : Addr} {fd : FuncData} (D : DefAt K mg "_law_is_number" s_law_is_number ["a_thing"] f fd) : Prm P w K mg base 1 "_law_is_number" 1 d_is_number := by
  refine prm_of D sc_law_is_number rfl (fun as μ Q ⟨d, e, _⟩ => by rw [e]; rfl) fun cdv A out s H hr hg => ⟨_, _,
(db_one (ds_ret (de_and (de_callB call_isi (so_isi k_int) (by rfl) T.n_isinstance (by decide +kernel) (da_cons (de_var (pv 0)) (da_cons (de_cls (pe_bltn (v := .ty "int") (by rfl) T.n_int (by decide +kernel) rfl)) da_nil))) (de_one (de_not (de_callB call_isi (so_isi k_bool) (by rfl) T.n_isinstance (by decide +kernel) (da_cons (de_var (pv 0)) (da_cons (de_cls (pe_bltn (v := .ty "bool") (by rfl) T.n_bool (by decide +kernel) rfl)) da_nil))))))))
    , fun as μ Q ⟨d, e, q⟩ => ?_⟩
  subst e
  cases d <;> walk_at "dl" <;> exact q
def numIn (a b : Int) : PyData → Bool
  | .int i => decide (a ≤ i) && decide (i ≤ b)
  | _ => false
def d_is_number_within : DOs := fun as μ Q => ∃ d a b, as = [.dat d, .dat (.int a), .dat (.int b)] ∧ Q (.dat (.bool (numIn a b d))) μ
theorem ok_is_number_within (T : Txt K mg) (p_is_number : Prm P w K mg base 1 "is_number" 1 d_is_number) {f : Addr} {fd : FuncData} (D : DefAt K mg "is_number_within" s_is_number_within ["thing", "least", "most"] f fd) : Prm P w K mg base 2 "is_number_within" 3 d_is_number_within := by
  refine prm_of D sc_is_number_within rfl (fun as μ Q ⟨d, a, b, e, _⟩ => by rw [e]; rfl) fun cdv A out s H hr hg => ⟨_, _,
(db_one (ds_ret (de_and (de_call p_is_number (hr.mono (by decide)) hg (by rfl) (da_cons (de_var (pv 0)) da_nil)) (de_one (de_chain op_le op_le so_IB so_IB (de_var (pv 1)) (de_var (pv 0)) (de_var (pv 2)))))))
    , fun as μ Q ⟨d, a, b, e, q⟩ => ?_⟩
  subst e
  cases d with
  | int i =>
    walk_at "dl"
    simp [d_is_number, isNum, and_assoc]
    by_cases h1 : a ≤ i <;> simp [h1] <;> simpa [numIn, h1] using q
  | _ => walk_at "dl"; simp [d_is_number, isNum, and_assoc]; exact q
def LET : Str := "abcdefghijklmnopqrstuvwxyz"
def inL (c : Nat) : Bool := decide (c ∈ LET.cps.toList)
def isName : PyData → Bool
  | .str s => decide (1 ≤ (s.length : Int)) && decide ((s.length : Int) ≤ 8) && s.cps.toList.all inL
  | _ => false
def sgn : PyData → Bool
  | .str z => z.cps.toList.all inL
  | _ => false
theorem sgn_signs (s : Str) : (signsD s).all sgn = s.cps.toList.all inL := by
  unfold signsD
  rw [List.all_map]
  congr 1
  funext c
  simp [sgn, inL]
def shortS (d : PyData) : Prop := ∀ s, d = .str s → s.length ≤ sizeLine
def d_is_name : DOs := fun as μ Q => ∃ d, as = [.dat d] ∧ shortS d ∧ Q (.dat (.bool (isName d))) μ
theorem sgn_one {d : PyData} {s : Str} (h : d ∈ signsD s) : ∃ c : Nat, d = .str ⟨#[c]⟩ := by
  unfold signsD at h
  obtain ⟨c, _, e⟩ := List.mem_map.mp h
  exact ⟨c, e.symm⟩
theorem ok_is_name (T : Txt K mg) {f : Addr} {fd : FuncData} (D : DefAt K mg "is_name" s_is_name ["thing"] f fd) : Prm P w K mg base 1 "is_name" 1 d_is_name := by
  refine prm_of D sc_is_name rfl (fun as μ Q ⟨d, e, _⟩ => by rw [e]; rfl) fun cdv A out s H hr hg => ⟨_, _,
(db_cons (ds_if (DW.dt (dw_or (dt_not (dt_val (de_callB call_isi (so_isi k_str) (by rfl) T.n_isinstance (by decide +kernel) (da_cons (de_var (pv 0)) (da_cons (de_cls (pe_bltn (v := .ty "str") (by rfl) T.n_str (by decide +kernel) rfl)) da_nil))))) (dw_or1 (dt_not (dt_chain op_le op_le so_IB so_IB de_int (de_callB call_len (so_A1 so_len) (by rfl) T.n_len (by decide +kernel) (da_cons (de_var (pv 0)) da_nil)) (de_globI (pe_gc (by rfl) T.c_LONGEST_NAME))))))) (db_one (ds_ret de_bl)) db_nil)
    (db_one (ds_ret (de_callB (cr_all rfl) (so_A1 so_all) (by rfl) T.n_all (by decide +kernel) (da_cons (de_lc (own := [("sign", 1)]) rfl sc_is_name.nd (di_strE (de_var (pv 0))) (blkOk_by (N := N_is_name) (sc := defScope s_is_name) (by decide +kernel)) (fun _ _ _ _ _ => (dg_name (pg_name (i := 1) sc_is_name.nd rfl (by first | exact Or.inl rfl | exact Or.inr rfl)) (by decide))) (fun _ _ _ _ _ => dts_nil) (fun _ _ _ _ _ => (de_cmp op_in_sign so_sign (de_var (pv 1)) (de_globS (pe_gc (by rfl) T.c_LETTERS))))) da_nil)))))
    , fun as μ Q ⟨d, e, hs, q⟩ => ?_⟩
  subst e
  cases d with
  | str z =>
    walk_at "dl"
    refine ⟨hs z rfl, ?_⟩
    by_cases h1 : 1 ≤ (z.length : Int)
    · by_cases h2 : (z.length : Int) ≤ 8
      · simp [h1, h2]
        refine lc_pure (signsD z) (fun d => .bool (sgn d)) (fun R r => by walk_at "dl"; exact r) (by rw [signsD_len]; exact hs z rfl) (fun d hd μ' R r => ?_) ?_
        · obtain ⟨c, rfl⟩ := sgn_one hd
          walk_at "dl"
          simpa [sgn, inL, LET] using r
        · refine all_map _ sgn Q μ ?_
          rw [sgn_signs]
          simpa [isName, h1, h2] using q
      · simp [h1, h2]
        simpa [isName, h1, h2] using q
    · simp [h1]
      simpa [isName, h1] using q
  | _ => walk_at "dl"; exact q
theorem ok_law_is_name (T : Txt K mg) {f : Addr} {fd : FuncData} (D : DefAt K mg "_law_is_name" s_law_is_name ["a_thing"] f fd) : Prm P w K mg base 1 "_law_is_name" 1 d_is_name := by
  refine prm_of D sc_law_is_name rfl (fun as μ Q ⟨d, e, _⟩ => by rw [e]; rfl) fun cdv A out s H hr hg => ⟨_, _,
(db_cons (ds_if (DW.dt (dw_or (dt_not (dt_val (de_callB call_isi (so_isi k_str) (by rfl) T.n_isinstance (by decide +kernel) (da_cons (de_var (pv 0)) (da_cons (de_cls (pe_bltn (v := .ty "str") (by rfl) T.n_str (by decide +kernel) rfl)) da_nil))))) (dw_or1 (dt_not (dt_chain op_le op_le so_IB so_IB de_int (de_callB call_len (so_A1 so_len) (by rfl) T.n_len (by decide +kernel) (da_cons (de_var (pv 0)) da_nil)) de_int))))) (db_one (ds_ret de_bl)) db_nil)
    (db_one (ds_ret (de_callB (cr_all rfl) (so_A1 so_all) (by rfl) T.n_all (by decide +kernel) (da_cons (de_lc (own := [("sign", 1)]) rfl sc_law_is_name.nd (di_strE (de_var (pv 0))) (blkOk_by (N := N_law_is_name) (sc := defScope s_law_is_name) (by decide +kernel)) (fun _ _ _ _ _ => (dg_name (pg_name (i := 1) sc_law_is_name.nd rfl (by first | exact Or.inl rfl | exact Or.inr rfl)) (by decide))) (fun _ _ _ _ _ => dts_nil) (fun _ _ _ _ _ => (de_cmp op_in_sign so_sign (de_var (pv 1)) de_str))) da_nil)))))
    , fun as μ Q ⟨d, e, hs, q⟩ => ?_⟩
  subst e
  cases d with
  | str z =>
    walk_at "dl"
    refine ⟨hs z rfl, ?_⟩
    by_cases h1 : 1 ≤ (z.length : Int)
    · by_cases h2 : (z.length : Int) ≤ 8
      · simp [h1, h2]
        refine lc_pure (signsD z) (fun d => .bool (sgn d)) (fun R r => by walk_at "dl"; exact r) (by rw [signsD_len]; exact hs z rfl) (fun d hd μ' R r => ?_) ?_
        · obtain ⟨c, rfl⟩ := sgn_one hd
          walk_at "dl"
          simpa [sgn, inL, LET] using r
        · refine all_map _ sgn Q μ ?_
          rw [sgn_signs]
          simpa [isName, h1, h2] using q
      · simp [h1, h2]
        simpa [isName, h1, h2] using q
    · simp [h1]
      simpa [isName, h1] using q
  | _ => walk_at "dl"; exact q
def tupIn (a b : Int) : PyData → Bool
  | .tuple ds => decide (a ≤ (ds.length : Int)) && decide ((ds.length : Int) ≤ b)
  | _ => false
def d_is_tuple_within : DOs := fun as μ Q => ∃ d a b, as = [.dat d, .dat (.int a), .dat (.int b)] ∧ Q (.dat (.bool (tupIn a b d))) μ
theorem ok_is_tuple_within (T : Txt K mg) {f : Addr} {fd : FuncData} (D : DefAt K mg "is_tuple_within" s_is_tuple_within ["thing", "least", "most"] f fd) : Prm P w K mg base 1 "is_tuple_within" 3 d_is_tuple_within := by
  refine prm_of D sc_is_tuple_within rfl (fun as μ Q ⟨d, a, b, e, _⟩ => by rw [e]; rfl) fun cdv A out s H hr hg => ⟨_, _,
(db_one (ds_ret (de_and (de_callB call_isi (so_isi k_tup) (by rfl) T.n_isinstance (by decide +kernel) (da_cons (de_var (pv 0)) (da_cons (de_cls (pe_bltn (v := .ty "tuple") (by rfl) T.n_tuple (by decide +kernel) rfl)) da_nil))) (de_one (de_chain op_le op_le so_IB so_IB (de_var (pv 1)) (de_callB call_len (so_A1 so_len) (by rfl) T.n_len (by decide +kernel) (da_cons (de_var (pv 0)) da_nil)) (de_var (pv 2)))))))
    , fun as μ Q ⟨d, a, b, e, q⟩ => ?_⟩
  subst e
  cases d with
  | tuple ds =>
    walk_at "dl"
    by_cases h1 : a ≤ (ds.length : Int) <;> simp [h1] <;> simpa [tupIn, h1] using q
  | _ => walk_at "dl"; exact q
def riseS (ss : List Str) : Bool := (ss.zip (ss.drop 1)).all fun p => ltS p.1 p.2
def pairLt : PyData → Bool
  | .tuple [.str a, .str b] => ltS a b
  | _ => false
theorem zip_strs : ∀ ss tt : List Str, zipD (ss.map PyData.str) (tt.map PyData.str) = (ss.zip tt).map fun p => .tuple [.str p.1, .str p.2]
  | [], _ => by simp [zipD]
  | _ :: _, [] => by simp [zipD]
  | s :: ss, t :: tt => by
    have := zip_strs ss tt
    simp only [zipD] at this
    simp [zipD, this]
theorem cut1 {α : Type} (xs : List α) : cutL xs (some 1) none = xs.drop 1 := by
  unfold cutL
  rw [show HT.sIx xs.length 0 (some 1) = min 1 xs.length from HT.sIx_nat xs.length 0 1, HT.sIx_none]
  cases xs with
  | nil => rfl
  | cons x r =>
    rw [show min 1 (x :: r).length = 1 by rw [List.length_cons]; omega]
    show List.take ((x :: r).length - 1) r = r
    rw [List.length_cons, Nat.add_sub_cancel]
    exact List.take_length
def d_is_rising : DOs := fun as μ Q => ∃ (d : PyData) (ss : List Str), as = [.dat d] ∧ itemsD d = some (ss.map PyData.str) ∧ ss.length ≤ sizeLine ∧ Q (.dat (.bool (riseS ss))) μ
theorem rise_end {ss : List Str} {μ : Mu} {Q : DV} (q : Q (.dat (.bool (riseS ss))) μ) : oAll (.dat (.list ((zipD (ss.map PyData.str) ((ss.drop 1).map PyData.str)).map fun d => .bool (pairLt d)))) μ Q := by
  refine all_map _ pairLt Q μ ?_
  rw [zip_strs, List.all_map]
  exact q
theorem rise_mem {ss : List Str} {d : PyData} (h : d ∈ zipD (ss.map PyData.str) ((ss.drop 1).map PyData.str)) : ∃ a b, d = .tuple [.str a, .str b] := by
  rw [zip_strs] at h
  obtain ⟨p, _, e⟩ := List.mem_map.mp h
  exact ⟨p.1, p.2, e.symm⟩
theorem rise_len (ss : List Str) : (zipD (ss.map PyData.str) ((ss.drop 1).map PyData.str)).length ≤ ss.length := by
  rw [zip_strs, List.length_map, List.length_zip]
  omega
theorem ok_is_rising (T : Txt K mg) {f : Addr} {fd : FuncData} (D : DefAt K mg "is_rising" s_is_rising ["row"] f fd) : Prm P w K mg base 1 "is_rising" 1 d_is_rising := by
  refine prm_of D sc_is_rising rfl (fun as μ Q ⟨d, ss, e, _⟩ => by rw [e]; rfl) fun cdv A out s H hr hg => ⟨_, _,
(db_one (ds_ret (de_callB (cr_all rfl) (so_A1 so_all) (by rfl) T.n_all (by decide +kernel) (da_cons (de_lc (own := [("low", 1), ("high", 2)]) rfl sc_is_rising.nd (di_zipE (by rfl) T.n_zip (da_cons (de_var (pv 0)) (da_cons (de_slice (de_var (pv 0)) (dp_some de_int) dp_none) da_nil))) (blkOk_by (N := N_is_rising) (sc := defScope s_is_rising) (by decide +kernel)) (fun _ _ _ _ _ => (dg_tup (K := K) (n := 2) rfl rfl (dgs_cons (dg_name (pg_name (i := 1) sc_is_rising.nd rfl (by first | exact Or.inl rfl | exact Or.inr rfl)) (by decide)) (dgs_cons (dg_name (pg_name (i := 2) sc_is_rising.nd rfl (by first | exact Or.inl rfl | exact Or.inr rfl)) (by decide)) dgs_nil)))) (fun _ _ _ _ _ => dts_nil) (fun _ _ _ _ _ => (de_cmp op_lt_str so_SS (de_var (pv 1)) (de_var (pv 2))))) da_nil))))
    , fun as μ Q ⟨d, ss, e, hi, hz, q⟩ => ?_⟩
  subst e
  cases d <;> simp only [itemsD, Option.some.injEq, reduceCtorEq] at hi <;> subst hi <;> walk_at "dl"
  · refine lc_pure _ (fun d => .bool (pairLt d)) (fun R r => ?_) (Nat.le_trans (rise_len ss) hz) (fun d hd μ' R r => ?_) (rise_end q)
    · walk_at "dl"
      rw [cut1, ← List.map_drop]
      exact r
    · obtain ⟨a, b, rfl⟩ := rise_mem hd
      walk_at "dl"
      simpa [pairLt, ltS] using r
  · refine lc_pure _ (fun d => .bool (pairLt d)) (fun R r => ?_) (Nat.le_trans (rise_len ss) hz) (fun d hd μ' R r => ?_) (rise_end q)
    · walk_at "dl"
      rw [cut1, ← List.map_drop]
      exact r
    · obtain ⟨a, b, rfl⟩ := rise_mem hd
      walk_at "dl"
      simpa [pairLt, ltS] using r
theorem ok_law_rise (T : Txt K mg) {f : Addr} {fd : FuncData} (D : DefAt K mg "_law_rise" s_law_rise ["names"] f fd) : Prm P w K mg base 1 "_law_rise" 1 d_is_rising := by
  refine prm_of D sc_law_rise rfl (fun as μ Q ⟨d, ss, e, _⟩ => by rw [e]; rfl) fun cdv A out s H hr hg => ⟨_, _,
(db_one (ds_ret (de_callB (cr_all rfl) (so_A1 so_all) (by rfl) T.n_all (by decide +kernel) (da_cons (de_lc (own := [("one", 1), ("two", 2)]) rfl sc_law_rise.nd (di_zipE (by rfl) T.n_zip (da_cons (de_var (pv 0)) (da_cons (de_slice (de_var (pv 0)) (dp_some de_int) dp_none) da_nil))) (blkOk_by (N := N_law_rise) (sc := defScope s_law_rise) (by decide +kernel)) (fun _ _ _ _ _ => (dg_tup (K := K) (n := 2) rfl rfl (dgs_cons (dg_name (pg_name (i := 1) sc_law_rise.nd rfl (by first | exact Or.inl rfl | exact Or.inr rfl)) (by decide)) (dgs_cons (dg_name (pg_name (i := 2) sc_law_rise.nd rfl (by first | exact Or.inl rfl | exact Or.inr rfl)) (by decide)) dgs_nil)))) (fun _ _ _ _ _ => dts_nil) (fun _ _ _ _ _ => (de_cmp op_lt_str so_SS (de_var (pv 1)) (de_var (pv 2))))) da_nil))))
    , fun as μ Q ⟨d, ss, e, hi, hz, q⟩ => ?_⟩
  subst e
  cases d <;> simp only [itemsD, Option.some.injEq, reduceCtorEq] at hi <;> subst hi <;> walk_at "dl"
  · refine lc_pure _ (fun d => .bool (pairLt d)) (fun R r => ?_) (Nat.le_trans (rise_len ss) hz) (fun d hd μ' R r => ?_) (rise_end q)
    · walk_at "dl"
      rw [cut1, ← List.map_drop]
      exact r
    · obtain ⟨a, b, rfl⟩ := rise_mem hd
      walk_at "dl"
      simpa [pairLt, ltS] using r
  · refine lc_pure _ (fun d => .bool (pairLt d)) (fun R r => ?_) (Nat.le_trans (rise_len ss) hz) (fun d hd μ' R r => ?_) (rise_end q)
    · walk_at "dl"
      rw [cut1, ← List.map_drop]
      exact r
    · obtain ⟨a, b, rfl⟩ := rise_mem hd
      walk_at "dl"
      simpa [pairLt, ltS] using r
end
end K1


namespace K1
open PySem PySem.Spec PyProof.Rows L2 RZ DL
local macro_rules | `(tactic| walk_at "dl") => `(tactic| simp [and_assoc, mRet, mAnd, mOr, mCall, mCons, mVar, mCls, mNil, mC, oIsi, oIsi2, mNot, startD, mSeq, mIfS, mTOr, mTAnd, mTNot, mTest, mChain, mNext, oA1, oA2, oIB, oII, oII0, mOp, mUn, mAsg, mgName, mgTup, mgCons_c, mgNil_n, zipAs_l, zipAs_t, oSl_l, oSl_t, oSl_s, oSl_r, mPart, mSl, mIf, wipeD, oSign, oSS, oLen, LenD_s, LenD_l, LenD_t, LenD_m, miZ, miS, miT, miL, miE, miR, oEq, oNe, eqD_i, eqD_b, eqD_s, oInT, oIx, ixD_l, ixD_t, ixD_s, ixD_m, ix0, ix1, ix2, ix3, oAbs, oInt, oMax, oMin, mPar, mPar3, mTup, mLst, mLstM, asD, mExpr, itemsD_l, itemsD_t, oNeg, mgSub, mset_same, isStr, isTup, isLst, isBool, DL.isInt])
section
variable {P : Program} {w : World} {K : PySem.W.Frag} {mg : Str → Option Value} {base : Heap}
/-! ### what a plan is -/
def strOf : PyData → Str
  | .str s => s
  | _ => Str.empty
def strsOf (ds : List PyData) : List Str := ds.map strOf
theorem isName_str {d : PyData} (h : isName d = true) : d = .str (strOf d) := by
  cases d <;> simp [isName] at h
  rfl
theorem strs_eq : ∀ {ds : List PyData}, ds.all isName = true → ds = (strsOf ds).map PyData.str
  | [], _ => rfl
  | d :: ds, h => by
    simp only [List.all_cons, Bool.and_eq_true] at h
    have h1 := isName_str h.1
    have h2 := strs_eq h.2
    simp only [strsOf, List.map_cons] at h2 ⊢
    rw [← h1, ← h2]
theorem strsOf_str (ss : List Str) : strsOf (ss.map PyData.str) = ss := by
  unfold strsOf
  rw [List.map_map]
  induction ss with
  | nil => rfl
  | cons s ss ih => simpa [strOf] using ih
def areCallers : PyData → Bool
  | .tuple ds => decide (1 ≤ (ds.length : Int)) && decide ((ds.length : Int) ≤ 8) && ds.all isName && riseS (strsOf ds)
  | _ => false
def memS (ss : List Str) : PyData → Bool
  | .str s => decide (s ∈ ss)
  | _ => false
theorem any_mem (ss : List Str) (d : PyData) : memD (ss.map PyData.str) d = memS ss d := by
  unfold memD
  induction ss with
  | nil => cases d <;> simp [memS]
  | cons s ss ih =>
    rw [List.map_cons, List.any_cons, ih]
    cases d with
    | str t =>
      by_cases e : t = s
      · subst e
        simp [memS, PyData.eqv]
      · have e' : ¬ s = t := fun z => e z.symm
        simp [memS, PyData.eqv, e, e']
    | _ => simp [memS, PyData.eqv]
theorem memS_str {ss : List Str} {d : PyData} (h : memS ss d = true) : ∃ s, d = .str s := by
  cases d <;> simp [memS] at h
  exact ⟨_, rfl⟩
def ltD : PyData → PyData → Bool
  | .str a, .str b => ltS a b
  | _, _ => false
def fits (rest : Int) : PyData → Bool
  | .int x => decide (2 * x + 1 ≤ rest)
  | _ => false
def isWay (rest : Int) (ss : List Str) : PyData → Bool
  | .tuple [n, o, t, b] => isName n && memS ss o && memS ss t && ltD o t && numIn 1 6 b && fits rest b
  | _ => false
def firstD : PyData → PyData
  | .tuple (x :: _) => x
  | d => d
def areWays (rest : Int) (ss : List Str) : PyData → Bool
  | .tuple ds => decide ((ds.length : Int) ≤ 10) && ds.all (isWay rest ss) && riseS (strsOf (ds.map firstD))
  | _ => false
def intOf : PyData → Int
  | .int i => i
  | _ => 0
def tupOf : PyData → List PyData
  | .tuple ds => ds
  | _ => []
def isPlan : PyData → Bool
  | .tuple [r, c, v] => numIn 3 24 r && areCallers c && areWays (intOf r) (strsOf (tupOf c)) v
  | _ => false
theorem _root_.DL.Ok.short {n b m : Nat} {d : PyData} (h : Ok n b m d) (hn : n ≤ 3) : shortS d := fun s e => by
  subst e
  have := h.len
  rw [sizeLine_eq]
  omega
/-! ### callers -/
def d_are_callers : DOs := fun as μ Q => ∃ d, as = [.dat d] ∧ Ok 3 10000 50 d ∧ Q (.dat (.bool (areCallers d))) μ
theorem small4 {n : Nat} (h : n + 1 ≤ 10000) : n ≤ sizeLine := by
  rw [sizeLine_eq]
  omega
theorem ok_are_callers (T : Txt K mg) (p_is_tuple_within : Prm P w K mg base 1 "is_tuple_within" 3 d_is_tuple_within) (p_is_name : Prm P w K mg base 1 "is_name" 1 d_is_name) (p_is_rising : Prm P w K mg base 1 "is_rising" 1 d_is_rising)
    {f : Addr} {fd : FuncData} (D : DefAt K mg "_are_callers" s_are_callers ["thing"] f fd) : Prm P w K mg base 2 "_are_callers" 1 d_are_callers := by
  refine prm_of D sc_are_callers rfl (fun as μ Q ⟨d, e, _⟩ => by rw [e]; rfl) fun cdv A out s H hr hg => ⟨_, _,
(db_cons (ds_if (dt_not (dt_val (de_call p_is_tuple_within (hr.mono (by decide)) hg (by rfl) (da_cons (de_var (pv 0)) (da_cons de_int (da_cons (de_globI (pe_gc (by rfl) T.c_CALLERS)) da_nil)))))) (db_one (ds_ret de_bl)) db_nil)
    (db_one (ds_ret (de_and (de_callB (cr_all rfl) (so_A1 so_all) (by rfl) T.n_all (by decide +kernel) (da_cons (de_lc (own := [("caller", 1)]) rfl sc_are_callers.nd (di_tup (de_var (pv 0))) (blkOk_by (N := N_are_callers) (sc := defScope s_are_callers) (by decide +kernel)) (fun _ _ _ _ _ => (dg_name (pg_name (i := 1) sc_are_callers.nd rfl (by first | exact Or.inl rfl | exact Or.inr rfl)) (by decide))) (fun _ _ _ _ _ => dts_nil) (fun _ _ _ _ _ => (de_callC p_is_name rfl rfl rfl rfl rfl (hr.mono (by decide)) hg (by rfl) (da_cons (de_var (pv 1)) da_nil)))) da_nil)) (de_one (de_call p_is_rising (hr.mono (by decide)) hg (by rfl) (da_cons (de_var (pv 0)) da_nil)))))))
    , fun as μ Q ⟨d, e, ok, q⟩ => ?_⟩
  subst e
  cases d with
  | tuple ds =>
    walk_at "dl"
    simp [d_is_tuple_within, tupIn, and_assoc]
    by_cases h1 : 1 ≤ (ds.length : Int)
    · by_cases h2 : (ds.length : Int) ≤ 8
      · simp [h1, h2]
        have hl := ok.items_len (ds := ds) rfl
        refine .inr (lc_pure ds (fun d => .bool (isName d)) (fun R r => by walk_at "dl"; exact r) (small4 hl) (fun d hd μ' R r => ?_) ?_)
        · walk_at "dl"
          exact ⟨d, rfl, (ok.item rfl hd).1.short (by decide), r⟩
        · refine all_map _ isName _ μ ?_
          cases e : ds.all isName with
          | false => exact .inl ⟨rfl, by simpa [areCallers, h1, h2, e] using q⟩
          | true =>
            refine .inr ⟨rfl, .tuple ds, strsOf ds, rfl, ?_, ?_, ?_⟩
            · rw [← strs_eq e]
              rfl
            · unfold strsOf
              rw [List.length_map]
              exact small4 hl
            · simpa [areCallers, h1, h2, e] using q
      · simp [h1, h2]
        exact ⟨by omega, by simpa [areCallers, h1, h2] using q⟩
    · simp [h1]
      simpa [areCallers, h1] using q
  | _ => walk_at "dl"; simp [d_is_tuple_within, tupIn, and_assoc]; exact q
/-! ### ways -/
theorem four {ds : List PyData} (h : ds.length = 4) : ∃ a b c d, ds = [a, b, c, d] := by
  match ds, h with
  | [a, b, c, d], _ => exact ⟨a, b, c, d, rfl⟩
theorem three {ds : List PyData} (h : ds.length = 3) : ∃ a b c, ds = [a, b, c] := by
  match ds, h with
  | [a, b, c], _ => exact ⟨a, b, c, rfl⟩
theorem shaped_list {n b m : Nat} {ds : List PyData} (h : Ok n b m (.tuple ds)) (hm : m ≤ 60) : SeqAt.shaped (.list ds) = true := by
  have := h.shaped hm
  exact this
theorem mulw {i j : Int} (hi : i.natAbs < 2 ^ 64) (hj : j.natAbs < 2 ^ 100) : CMul i j := .inl ⟨by omega, by omega⟩
theorem divw {i j : Int} (h : 0 < j) (hj : j.natAbs < 2 ^ 100) : CDivW i j := wide_div h hj (by decide) (by decide)
def d_is_way : DOs := fun as μ Q => ∃ d rest ss, as = [.dat d, .dat (.int rest), .dat (.tuple (ss.map PyData.str))] ∧ Ok 3 10000 50 d ∧ Ok 3 10000 50 (.tuple (ss.map PyData.str)) ∧ Q (.dat (.bool (isWay rest ss d))) μ
theorem not_four {rest : Int} {ss : List Str} {ds : List PyData} (h : ds.length ≠ 4) : isWay rest ss (.tuple ds) = false := by
  unfold isWay
  split
  · rename_i e
    cases e
    exact absurd rfl h
  · rfl
theorem ok_is_way (T : Txt K mg) (p_is_tuple_within : Prm P w K mg base 1 "is_tuple_within" 3 d_is_tuple_within) (p_is_name : Prm P w K mg base 1 "is_name" 1 d_is_name) (p_is_number_within : Prm P w K mg base 2 "is_number_within" 3 d_is_number_within)
    {f : Addr} {fd : FuncData} (D : DefAt K mg "_is_way" s_is_way ["thing", "rest", "callers"] f fd) : Prm P w K mg base 3 "_is_way" 3 d_is_way := by
  refine prm_of D sc_is_way rfl (fun as μ Q ⟨d, r, ss, e, _⟩ => by rw [e]; rfl) fun cdv A out s H hr hg => ⟨_, _,
(db_cons (ds_if (dt_not (dt_val (de_call p_is_tuple_within (hr.mono (by decide)) hg (by rfl) (da_cons (de_var (pv 0)) (da_cons de_int (da_cons de_int da_nil)))))) (db_one (ds_ret de_bl)) db_nil)
    (db_cons (ds_asg (vs := [3, 4, 5, 6]) (de_var (pv 0)) (dg_tup (K := K) (n := 4) rfl rfl (dgs_cons (dg_name (pg_name (i := 3) sc_is_way.nd rfl (by first | exact Or.inl rfl | exact Or.inr rfl)) (by decide)) (dgs_cons (dg_name (pg_name (i := 4) sc_is_way.nd rfl (by first | exact Or.inl rfl | exact Or.inr rfl)) (by decide)) (dgs_cons (dg_name (pg_name (i := 5) sc_is_way.nd rfl (by first | exact Or.inl rfl | exact Or.inr rfl)) (by decide)) (dgs_cons (dg_name (pg_name (i := 6) sc_is_way.nd rfl (by first | exact Or.inl rfl | exact Or.inr rfl)) (by decide)) dgs_nil))))))
    (db_cons (ds_if (DW.dt (dw_or (dt_not (dt_val (de_call p_is_name (hr.mono (by decide)) hg (by rfl) (da_cons (de_var (pv 3)) da_nil)))) (dw_or (dt_cmp (op_notInT (hu65 hr)) so_inT (de_var (pv 4)) (de_var (pv 2))) (dw_or1 (dt_cmp (op_notInT (hu65 hr)) so_inT (de_var (pv 5)) (de_var (pv 2))))))) (db_one (ds_ret de_bl)) db_nil)
    (db_one (ds_ret (de_and (de_cmp op_lt_str so_SS (de_var (pv 4)) (de_var (pv 5))) (de_and (de_call p_is_number_within (hr.mono (by decide)) hg (by rfl) (da_cons (de_var (pv 6)) (da_cons de_int (da_cons (de_globI (pe_gc (by rfl) T.c_BEATS)) da_nil)))) (de_one (de_cmp op_le so_IB (de_op op_add so_II0 (de_op op_mul so_II de_int (de_var (pv 6))) de_int) (de_var (pv 1)))))))))))
    , fun as μ Q ⟨d, rest, ss, e, ok, oks, q⟩ => ?_⟩
  subst e
  cases d with
  | tuple ds =>
    walk_at "dl"
    simp [d_is_tuple_within, tupIn, and_assoc]
    by_cases h4 : ds.length = 4
    · obtain ⟨n, o, t, b, rfl⟩ := four h4
      have okn := (ok.item rfl (x := n) (by simp)).1
      have oko := (ok.item rfl (x := o) (by simp)).1
      have okt := (ok.item rfl (x := t) (by simp)).1
      walk_at "dl"
      simp [d_is_name, and_assoc, any_mem]
      refine ⟨okn.short (by decide), ?_⟩
      cases en : isName n with
      | false => exact .inl ⟨rfl, by simpa [isWay, en] using q⟩
      | true =>
      refine .inr ⟨rfl, oko.shaped (by decide), shaped_list oks (by decide), ?_⟩
      cases eo : memS ss o with
      | false => simpa [isWay, en, eo] using q
      | true =>
      refine .inl ⟨rfl, okt.shaped (by decide), shaped_list oks (by decide), ?_⟩
      cases et : memS ss t with
      | false => simpa [isWay, en, eo, et] using q
      | true =>
      obtain ⟨x, rfl⟩ := memS_str eo
      obtain ⟨y, rfl⟩ := memS_str et
      refine .inl ⟨rfl, x, rfl, y, rfl, ?_⟩
      by_cases h : x.cps < y.cps
      · rw [if_pos h]
        refine ⟨b, 1, 6, rfl, ?_⟩
        have hl : ltS x y = true := by simpa [ltS] using h
        cases eb : numIn 1 6 b with
        | false => exact .inl ⟨rfl, by simpa [isWay, en, eo, et, eb] using q⟩
        | true =>
          cases b with
          | int z =>
            simp [numIn] at eb
            refine .inr ⟨rfl, z, rfl, mulw (by decide) (by omega), ?_⟩
            simpa [isWay, en, eo, et, hl, numIn, eb, ltD, fits] using q
          | _ => simp [numIn] at eb
      · rw [if_neg h]
        have hl : ltS x y = false := by simpa [ltS] using h
        simpa [isWay, en, eo, et, hl, ltD] using q
    · have h4' : ¬ (4 ≤ (ds.length : Int) ∧ (ds.length : Int) ≤ 4) := by omega
      refine .inl ⟨?_, ?_⟩
      · intro h
        omega
      · rw [not_four h4] at q
        exact q
  | _ => walk_at "dl"; simp [d_is_tuple_within, tupIn, and_assoc]; exact q
/-! the ways -/
theorem first_way {rest : Int} {ss : List Str} {d : PyData} (h : isWay rest ss d = true) : ∃ (n : Str) (r : List PyData), d = .tuple (.str n :: r) := by
  unfold isWay at h
  split at h
  · rename_i n o t b
    simp only [Bool.and_eq_true] at h
    have := isName_str h.1.1.1.1.1
    rw [this]
    exact ⟨_, _, rfl⟩
  · cases h
theorem first_strs {rest : Int} {ss : List Str} : ∀ {ds : List PyData}, ds.all (isWay rest ss) = true → ds.map firstD = (strsOf (ds.map firstD)).map PyData.str
  | [], _ => rfl
  | d :: ds, h => by
    simp only [List.all_cons, Bool.and_eq_true] at h
    obtain ⟨n, r, rfl⟩ := first_way h.1
    have ih := first_strs h.2
    simp only [List.map_cons, strsOf] at ih ⊢
    rw [← ih]
    rfl
def d_are_ways : DOs := fun as μ Q => ∃ d rest ss, as = [.dat d, .dat (.int rest), .dat (.tuple (ss.map PyData.str))] ∧ Ok 3 10000 50 d ∧ Ok 3 10000 50 (.tuple (ss.map PyData.str)) ∧ Q (.dat (.bool (areWays rest ss d))) μ
theorem ok_are_ways (T : Txt K mg) (p_is_tuple_within : Prm P w K mg base 1 "is_tuple_within" 3 d_is_tuple_within) (p_is_way : Prm P w K mg base 3 "_is_way" 3 d_is_way) (p_is_rising : Prm P w K mg base 1 "is_rising" 1 d_is_rising)
    {f : Addr} {fd : FuncData} (D : DefAt K mg "_are_ways" s_are_ways ["thing", "rest", "callers"] f fd) : Prm P w K mg base 4 "_are_ways" 3 d_are_ways := by
  refine prm_of D sc_are_ways rfl (fun as μ Q ⟨d, r, ss, e, _⟩ => by rw [e]; rfl) fun cdv A out s H hr hg => ⟨_, _,
(db_cons (ds_if (dt_not (dt_val (de_call p_is_tuple_within (hr.mono (by decide)) hg (by rfl) (da_cons (de_var (pv 0)) (da_cons de_int (da_cons (de_globI (pe_gc (by rfl) T.c_WAYS)) da_nil)))))) (db_one (ds_ret de_bl)) db_nil)
    (db_one (ds_ret (de_and (de_callB (cr_all rfl) (so_A1 so_all) (by rfl) T.n_all (by decide +kernel) (da_cons (de_lc (own := [("way", 3)]) rfl sc_are_ways.nd (di_tup (de_var (pv 0))) (blkOk_by (N := N_are_ways) (sc := defScope s_are_ways) (by decide +kernel)) (fun _ _ _ _ _ => (dg_name (pg_name (i := 3) sc_are_ways.nd rfl (by first | exact Or.inl rfl | exact Or.inr rfl)) (by decide))) (fun _ _ _ _ _ => dts_nil) (fun _ _ _ _ _ => (de_callC p_is_way rfl rfl rfl rfl rfl (hr.mono (by decide)) hg (by rfl) (da_cons (de_var (pv 3)) (da_cons (de_var (pv 1)) (da_cons (de_var (pv 2)) da_nil)))))) da_nil)) (de_one (de_call p_is_rising (hr.mono (by decide)) hg (by rfl) (da_cons (de_lc (own := [("way", 3)]) rfl sc_are_ways.nd (di_tup (de_var (pv 0))) (blkOk_by (N := N_are_ways) (sc := defScope s_are_ways) (by decide +kernel)) (fun _ _ _ _ _ => (dg_name (pg_name (i := 3) sc_are_ways.nd rfl (by first | exact Or.inl rfl | exact Or.inr rfl)) (by decide))) (fun _ _ _ _ _ => dts_nil) (fun _ _ _ _ _ => (de_ixC (K := K) rfl (de_var (pv 3)) de_int (fun _ _ => rfl)))) da_nil)))))))
    , fun as μ Q ⟨d, rest, ss, e, ok, oks, q⟩ => ?_⟩
  subst e
  cases d with
  | tuple ds =>
    walk_at "dl"
    simp [d_is_tuple_within, tupIn, and_assoc]
    have h0 : 0 ≤ (ds.length : Int) := by omega
    have hl := ok.items_len (ds := ds) rfl
    by_cases h2 : (ds.length : Int) ≤ 10
    · refine .inr ⟨by omega, ?_⟩
      refine lc_pure ds (fun d => .bool (isWay rest ss d)) (fun R r => by walk_at "dl"; exact r) (small4 hl) (fun d hd μ' R r => ?_) ?_
      · walk_at "dl"
        exact ⟨d, rest, ss, rfl, (ok.item rfl hd).1, oks, r⟩
      · refine all_map _ (isWay rest ss) _ μ ?_
        cases e : ds.all (isWay rest ss) with
        | false => exact .inl ⟨rfl, by simpa [areWays, h2, e] using q⟩
        | true =>
          refine .inr ⟨rfl, ?_⟩
          refine lc_pure ds firstD (fun R r => by walk_at "dl"; exact r) (small4 hl) (fun d hd μ' R r => ?_) ?_
          · obtain ⟨n, rr, rfl⟩ := first_way (List.all_eq_true.mp e d hd)
            walk_at "dl"
            simpa [firstD] using r
          · refine ⟨_, strsOf (ds.map firstD), rfl, congrArg some (first_strs e), ?_, ?_⟩
            · unfold strsOf
              rw [List.length_map, List.length_map]
              exact small4 hl
            · simpa [areWays, h2, e] using q
    · exact .inl ⟨by omega, by simpa [areWays, h2] using q⟩
  | _ => walk_at "dl"; simp [d_is_tuple_within, tupIn, and_assoc]; exact q
/-! plans -/
def d_is_plan : DOs := fun as μ Q => ∃ d, as = [.dat d] ∧ Ok 3 10000 50 d ∧ Q (.dat (.bool (isPlan d))) μ
theorem not_three {ds : List PyData} (h : ds.length ≠ 3) : isPlan (.tuple ds) = false := by
  unfold isPlan
  split
  · rename_i e
    cases e
    exact absurd rfl h
  · rfl
theorem callers_strs {d : PyData} (h : areCallers d = true) : ∃ ss : List Str, d = .tuple (ss.map PyData.str) ∧ strsOf (tupOf d) = ss := by
  cases d <;> simp [areCallers] at h
  rename_i ds
  refine ⟨strsOf ds, ?_, rfl⟩
  rw [← strs_eq (List.all_eq_true.mpr fun x hx => h.1.2 x hx)]
theorem ok_is_plan_body (T : Txt K mg) (p_is_tuple_within : Prm P w K mg base 1 "is_tuple_within" 3 d_is_tuple_within) (p_is_number_within : Prm P w K mg base 2 "is_number_within" 3 d_is_number_within)
    (p_are_callers : Prm P w K mg base 2 "_are_callers" 1 d_are_callers) (p_are_ways : Prm P w K mg base 4 "_are_ways" 3 d_are_ways)
    {f : Addr} {fd : FuncData} (D : DefAt K mg "is_plan" s_is_plan ["thing"] f fd) : FnG P w K mg base 5 f fd ["thing"] (spOf K 1 d_is_plan) := by
  refine fng_by D.fn sc_is_plan rfl fun cdv A out s H hr hg => ⟨_, _,
(db_cons (ds_if (dt_not (dt_val (de_call p_is_tuple_within (hr.mono (by decide)) hg (by rfl) (da_cons (de_var (pv 0)) (da_cons de_int (da_cons de_int da_nil)))))) (db_one (ds_ret de_bl)) db_nil)
    (db_cons (ds_asg (vs := [1, 2, 3]) (de_var (pv 0)) (dg_tup (K := K) (n := 3) rfl rfl (dgs_cons (dg_name (pg_name (i := 1) sc_is_plan.nd rfl (by first | exact Or.inl rfl | exact Or.inr rfl)) (by decide)) (dgs_cons (dg_name (pg_name (i := 2) sc_is_plan.nd rfl (by first | exact Or.inl rfl | exact Or.inr rfl)) (by decide)) (dgs_cons (dg_name (pg_name (i := 3) sc_is_plan.nd rfl (by first | exact Or.inl rfl | exact Or.inr rfl)) (by decide)) dgs_nil)))))
    (db_one (ds_ret (de_and (de_call p_is_number_within (hr.mono (by decide)) hg (by rfl) (da_cons (de_var (pv 1)) (da_cons (de_globI (pe_gc (by rfl) T.c_LEAST_REST)) (da_cons (de_globI (pe_gc (by rfl) T.c_REST)) da_nil)))) (de_and (de_call p_are_callers (hr.mono (by decide)) hg (by rfl) (da_cons (de_var (pv 2)) da_nil)) (de_one (de_call p_are_ways (hr.mono (by decide)) hg (by rfl) (da_cons (de_var (pv 3)) (da_cons (de_var (pv 1)) (da_cons (de_var (pv 2)) da_nil)))))))))))
    , fun as μ Q ⟨d, e, ok, q⟩ => ?_⟩
  subst e
  cases d with
  | tuple ds =>
    walk_at "dl"
    simp [d_is_tuple_within, tupIn, and_assoc]
    by_cases h3 : ds.length = 3
    · obtain ⟨r, c, v, rfl⟩ := three h3
      have okc := (ok.item rfl (x := c) (by simp)).1
      have okv := (ok.item rfl (x := v) (by simp)).1
      walk_at "dl"
      refine ⟨r, 3, 24, rfl, ?_⟩
      cases er : numIn 3 24 r with
      | false => exact .inl ⟨rfl, by simpa [isPlan, er] using q⟩
      | true =>
      refine .inr ⟨rfl, c, rfl, okc, ?_⟩
      cases ec : areCallers c with
      | false => exact .inl ⟨rfl, by simpa [isPlan, er, ec] using q⟩
      | true =>
      obtain ⟨ss, rfl, es⟩ := callers_strs ec
      cases r with
      | int i =>
        refine .inr ⟨rfl, v, i, ss, rfl, okv, okc, ?_⟩
        simpa [isPlan, er, ec, es, intOf] using q
      | _ => simp [numIn] at er
    · refine .inl ⟨fun h => by omega, ?_⟩
      rw [not_three h3] at q
      exact q
  | _ => walk_at "dl"; simp [d_is_tuple_within, tupIn, and_assoc]; exact q
end
end K1


namespace K1
open PySem PySem.Spec PyProof.Rows L2 RZ DL
local macro_rules | `(tactic| walk_at "dl") => `(tactic| simp [and_assoc, mRet, mAnd, mOr, mCall, mCons, mVar, mCls, mNil, mC, oIsi, oIsi2, mNot, startD, mSeq, mIfS, mTOr, mTAnd, mTNot, mTest, mChain, mNext, oA1, oA2, oIB, oII, oII0, mOp, mUn, mAsg, mgName, mgTup, mgCons_c, mgNil_n, zipAs_l, zipAs_t, oSl_l, oSl_t, oSl_s, oSl_r, mPart, mSl, mIf, wipeD, oSign, oSS, oLen, LenD_s, LenD_l, LenD_t, LenD_m, miZ, miS, miT, miL, miE, miR, oEq, oNe, eqD_i, eqD_b, eqD_s, oInT, oIx, ixD_l, ixD_t, ixD_s, ixD_m, ix0, ix1, ix2, ix3, oAbs, oInt, oMax, oMin, mPar, mPar3, mTup, mLst, mLstM, asD, mExpr, itemsD_l, itemsD_t, oNeg, mgSub, mset_same, isStr, isTup, isLst, isBool, DL.isInt])
section
variable {P : Program} {w : World} {K : PySem.W.Frag} {mg : Str → Option Value} {base : Heap}
def d_law_is_way : DOs := fun as μ Q => ∃ d rest ss, as = [.dat (.int rest), .dat (.tuple (ss.map PyData.str)), .dat d] ∧ Ok 3 10000 50 d ∧ Ok 3 10000 50 (.tuple (ss.map PyData.str)) ∧ Q (.dat (.bool (isWay rest ss d))) μ
theorem ok_law_is_way (T : Txt K mg) (p_law_is_name : Prm P w K mg base 1 "_law_is_name" 1 d_is_name) (p_law_is_number : Prm P w K mg base 1 "_law_is_number" 1 d_is_number)
    {f : Addr} {fd : FuncData} (D : DefAt K mg "_law_is_way" s_law_is_way ["rest", "callers", "a_thing"] f fd) : Prm P w K mg base 2 "_law_is_way" 3 d_law_is_way := by
  refine prm_of D sc_law_is_way rfl (fun as μ Q ⟨d, r, ss, e, _⟩ => by rw [e]; rfl) fun cdv A out s H hr hg => ⟨_, _,
(db_cons (ds_if (DW.dt (dw_or (dt_not (dt_val (de_callB call_isi (so_isi k_tup) (by rfl) T.n_isinstance (by decide +kernel) (da_cons (de_var (pv 2)) (da_cons (de_cls (pe_bltn (v := .ty "tuple") (by rfl) T.n_tuple (by decide +kernel) rfl)) da_nil))))) (dw_or (dt_cmp op_ne so_ne (de_callB call_len (so_A1 so_len) (by rfl) T.n_len (by decide +kernel) (da_cons (de_var (pv 2)) da_nil)) de_int) (dw_or1 (dt_not (dt_val (de_call p_law_is_name (hr.mono (by decide)) hg (by rfl) (da_cons (de_ix (de_var (pv 2)) de_int (fun _ _ => rfl)) da_nil)))))))) (db_one (ds_ret de_bl)) db_nil)
    (db_cons (ds_if (DW.dt (dw_or (dt_cmp (op_notInT (hu65 hr)) so_inT (de_ix (de_var (pv 2)) de_int (fun _ _ => rfl)) (de_var (pv 1))) (dw_or (dt_cmp (op_notInT (hu65 hr)) so_inT (de_ix (de_var (pv 2)) de_int (fun _ _ => rfl)) (de_var (pv 1))) (dw_or1 (dt_cmp op_ge_str so_SS (de_ix (de_var (pv 2)) de_int (fun _ _ => rfl)) (de_ix (de_var (pv 2)) de_int (fun _ _ => rfl))))))) (db_one (ds_ret de_bl)) db_nil)
    (db_one (ds_ret (de_and (de_call p_law_is_number (hr.mono (by decide)) hg (by rfl) (da_cons (de_ix (de_var (pv 2)) de_int (fun _ _ => rfl)) da_nil)) (de_and (de_chain op_le op_le so_IB so_IB de_int (de_ix (de_var (pv 2)) de_int (fun _ _ => rfl)) de_int) (de_one (de_cmp op_le so_IB (de_op op_add so_II0 (de_op op_mul so_II de_int (de_ix (de_var (pv 2)) de_int (fun _ _ => rfl))) de_int) (de_var (pv 0))))))))))
    , fun as μ Q ⟨d, rest, ss, e, ok, oks, q⟩ => ?_⟩
  subst e
  cases d with
  | tuple ds =>
    by_cases h4 : ds.length = 4
    · obtain ⟨n, o, t, b, rfl⟩ := four h4
      have okn := (ok.item rfl (x := n) (by simp)).1
      have oko := (ok.item rfl (x := o) (by simp)).1
      have okt := (ok.item rfl (x := t) (by simp)).1
      walk_at "dl"
      simp [d_is_name, and_assoc, any_mem]
      refine ⟨okn.short (by decide), ?_⟩
      cases en : isName n with
      | false => exact .inl ⟨rfl, by simpa [isWay, en] using q⟩
      | true =>
      refine .inr ⟨rfl, oko.shaped (by decide), shaped_list oks (by decide), ?_⟩
      cases eo : memS ss o with
      | false => exact .inr ⟨rfl, by simpa [isWay, en, eo] using q⟩
      | true =>
      refine .inl ⟨rfl, okt.shaped (by decide), shaped_list oks (by decide), ?_⟩
      cases et : memS ss t with
      | false => exact .inr ⟨rfl, by simpa [isWay, en, eo, et] using q⟩
      | true =>
      obtain ⟨x, rfl⟩ := memS_str eo
      obtain ⟨y, rfl⟩ := memS_str et
      refine .inl ⟨rfl, x, rfl, y, rfl, ?_⟩
      by_cases h : x.cps < y.cps
      · have hl : ltS x y = true := by simpa [ltS] using h
        refine .inl ⟨h, b, rfl, ?_⟩
        cases b with
        | int z =>
          refine .inr ⟨rfl, z, rfl, ?_⟩
          by_cases h1 : 1 ≤ z
          · rw [if_pos h1]
            refine ⟨z, rfl, ?_⟩
            by_cases h6 : z ≤ 6
            · rw [if_pos h6]
              refine ⟨z, rfl, mulw (by decide) (by omega), ?_⟩
              simpa [isWay, en, eo, et, hl, numIn, ltD, fits, h1, h6] using q
            · rw [if_neg h6]
              simpa [isWay, en, eo, et, hl, numIn, ltD, fits, h1, h6] using q
          · rw [if_neg h1]
            simpa [isWay, en, eo, et, hl, numIn, ltD, fits, h1] using q
        | _ => exact .inl ⟨rfl, by simpa [isWay, numIn] using q⟩
      · have hl : ltS x y = false := by simpa [ltS] using h
        exact .inr ⟨by simpa using h, by simpa [isWay, en, eo, et, hl, ltD] using q⟩
    · walk_at "dl"
      refine .inl ⟨by omega, ?_⟩
      rw [not_four h4] at q
      exact q
  | _ => walk_at "dl"; exact q
def d_law_due : DOs := d_is_plan
theorem ok_law_due (T : Txt K mg) (p_law_is_name : Prm P w K mg base 1 "_law_is_name" 1 d_is_name) (p_law_is_number : Prm P w K mg base 1 "_law_is_number" 1 d_is_number) (p_law_rise : Prm P w K mg base 1 "_law_rise" 1 d_is_rising)
    (p_law_is_way : Prm P w K mg base 2 "_law_is_way" 3 d_law_is_way)
    {f : Addr} {fd : FuncData} (D : DefAt K mg "_law_due" s_law_due ["a_thing"] f fd) : Prm P w K mg base 3 "_law_due" 1 d_law_due := by
  refine prm_of D sc_law_due rfl (fun as μ Q ⟨d, e, _⟩ => by rw [e]; rfl) fun cdv A out s H hr hg => ⟨_, _,
(db_cons (ds_if (DW.dt (dw_or (dt_not (dt_val (de_callB call_isi (so_isi k_tup) (by rfl) T.n_isinstance (by decide +kernel) (da_cons (de_var (pv 0)) (da_cons (de_cls (pe_bltn (v := .ty "tuple") (by rfl) T.n_tuple (by decide +kernel) rfl)) da_nil))))) (dw_or1 (dt_cmp op_ne so_ne (de_callB call_len (so_A1 so_len) (by rfl) T.n_len (by decide +kernel) (da_cons (de_var (pv 0)) da_nil)) de_int)))) (db_one (ds_ret de_bl)) db_nil)
    (db_cons (ds_asg (vs := [1, 2, 3]) (de_var (pv 0)) (dg_tup (K := K) (n := 3) rfl rfl (dgs_cons (dg_name (pg_name (i := 1) sc_law_due.nd rfl (by first | exact Or.inl rfl | exact Or.inr rfl)) (by decide)) (dgs_cons (dg_name (pg_name (i := 2) sc_law_due.nd rfl (by first | exact Or.inl rfl | exact Or.inr rfl)) (by decide)) (dgs_cons (dg_name (pg_name (i := 3) sc_law_due.nd rfl (by first | exact Or.inl rfl | exact Or.inr rfl)) (by decide)) dgs_nil)))))
    (db_cons (ds_if (DW.dt (dw_or (dt_not (dt_val (de_call p_law_is_number (hr.mono (by decide)) hg (by rfl) (da_cons (de_var (pv 1)) da_nil)))) (dw_or1 (dt_not (dt_chain op_le op_le so_IB so_IB de_int (de_var (pv 1)) de_int))))) (db_one (ds_ret de_bl)) db_nil)
    (db_cons (ds_if (DW.dt (dw_or (dt_not (dt_val (de_callB call_isi (so_isi k_tup) (by rfl) T.n_isinstance (by decide +kernel) (da_cons (de_var (pv 2)) (da_cons (de_cls (pe_bltn (v := .ty "tuple") (by rfl) T.n_tuple (by decide +kernel) rfl)) da_nil))))) (dw_or (dt_not (dt_chain op_le op_le so_IB so_IB de_int (de_callB call_len (so_A1 so_len) (by rfl) T.n_len (by decide +kernel) (da_cons (de_var (pv 2)) da_nil)) de_int)) (dw_or1 (dt_not (dt_val (de_callB (cr_all rfl) (so_A1 so_all) (by rfl) T.n_all (by decide +kernel) (da_cons (de_lc (own := [("one", 4)]) rfl sc_law_due.nd (di_tup (de_var (pv 2))) (blkOk_by (N := N_law_due) (sc := defScope s_law_due) (by decide +kernel)) (fun _ _ _ _ _ => (dg_name (pg_name (i := 4) sc_law_due.nd rfl (by first | exact Or.inl rfl | exact Or.inr rfl)) (by decide))) (fun _ _ _ _ _ => dts_nil) (fun _ _ _ _ _ => (de_callC p_law_is_name rfl rfl rfl rfl rfl (hr.mono (by decide)) hg (by rfl) (da_cons (de_var (pv 4)) da_nil)))) da_nil)))))))) (db_one (ds_ret de_bl)) db_nil)
    (db_cons (ds_if (DW.dt (dw_or (dt_not (dt_val (de_callB call_isi (so_isi k_tup) (by rfl) T.n_isinstance (by decide +kernel) (da_cons (de_var (pv 3)) (da_cons (de_cls (pe_bltn (v := .ty "tuple") (by rfl) T.n_tuple (by decide +kernel) rfl)) da_nil))))) (dw_or (dt_cmp op_gt so_IB (de_callB call_len (so_A1 so_len) (by rfl) T.n_len (by decide +kernel) (da_cons (de_var (pv 3)) da_nil)) de_int) (dw_or1 (dt_not (dt_val (de_call p_law_rise (hr.mono (by decide)) hg (by rfl) (da_cons (de_var (pv 2)) da_nil)))))))) (db_one (ds_ret de_bl)) db_nil)
    (db_one (ds_ret (de_and (de_callB (cr_all rfl) (so_A1 so_all) (by rfl) T.n_all (by decide +kernel) (da_cons (de_lc (own := [("one", 4)]) rfl sc_law_due.nd (di_tup (de_var (pv 3))) (blkOk_by (N := N_law_due) (sc := defScope s_law_due) (by decide +kernel)) (fun _ _ _ _ _ => (dg_name (pg_name (i := 4) sc_law_due.nd rfl (by first | exact Or.inl rfl | exact Or.inr rfl)) (by decide))) (fun _ _ _ _ _ => dts_nil) (fun _ _ _ _ _ => (de_callC p_law_is_way rfl rfl rfl rfl rfl (hr.mono (by decide)) hg (by rfl) (da_cons (de_var (pv 1)) (da_cons (de_var (pv 2)) (da_cons (de_var (pv 4)) da_nil)))))) da_nil)) (de_one (de_call p_law_rise (hr.mono (by decide)) hg (by rfl) (da_cons (de_lc (own := [("one", 4)]) rfl sc_law_due.nd (di_tup (de_var (pv 3))) (blkOk_by (N := N_law_due) (sc := defScope s_law_due) (by decide +kernel)) (fun _ _ _ _ _ => (dg_name (pg_name (i := 4) sc_law_due.nd rfl (by first | exact Or.inl rfl | exact Or.inr rfl)) (by decide))) (fun _ _ _ _ _ => dts_nil) (fun _ _ _ _ _ => (de_ixC (K := K) rfl (de_var (pv 4)) de_int (fun _ _ => rfl)))) da_nil)))))))))))
    , fun as μ Q ⟨d, e, ok, q⟩ => ?_⟩
  subst e
  cases d with
  | tuple ds =>
    by_cases h3 : ds.length = 3
    · obtain ⟨r, c, v, rfl⟩ := three h3
      have okc := (ok.item rfl (x := c) (by simp)).1
      have okv := (ok.item rfl (x := v) (by simp)).1
      walk_at "dl"
      refine ⟨r, rfl, ?_⟩
      cases r with
      | int i =>
        refine .inr ⟨rfl, i, rfl, ?_⟩
        by_cases h1 : 3 ≤ i
        · rw [if_pos h1]
          refine ⟨i, rfl, ?_⟩
          by_cases h2 : i ≤ 24
          · rw [if_pos h2]
            have er : numIn 3 24 (.int i) = true := by simp [numIn, h1, h2]
            cases c with
            | tuple cs =>
              rw [if_pos rfl]
              refine ⟨_, rfl, ?_⟩
              by_cases g1 : 1 ≤ (cs.length : Int)
              · rw [if_pos g1]
                by_cases g2 : (cs.length : Int) ≤ 8
                · rw [if_pos g2]
                  refine lc_pure cs (fun d => .bool (isName d)) (fun R r => by walk_at "dl"; exact r) (small4 (okc.items_len rfl)) (fun d hd μ' R r => ?_) ?_
                  · walk_at "dl"
                    exact ⟨d, rfl, (okc.item rfl hd).1.short (by decide), r⟩
                  · refine all_map _ isName _ μ ?_
                    cases e : cs.all isName with
                    | false => exact .inl ⟨rfl, by simpa [isPlan, areCallers, e] using q⟩
                    | true =>
                    refine .inr ⟨rfl, ?_⟩
                    cases v with
                    | tuple vs =>
                      rw [if_pos rfl]
                      refine ⟨_, rfl, ?_⟩
                      by_cases g3 : 10 < (vs.length : Int)
                      · rw [if_pos g3]
                        have g4 : ¬ ((vs.length : Int) ≤ 10) := by omega
                        simpa [isPlan, areWays, g4] using q
                      · rw [if_neg g3]
                        have g4 : (vs.length : Int) ≤ 10 := by omega
                        refine ⟨.tuple cs, strsOf cs, rfl, congrArg some (strs_eq e), ?_, ?_⟩
                        · unfold strsOf
                          rw [List.length_map]
                          exact small4 (okc.items_len rfl)
                        · cases e2 : riseS (strsOf cs) with
                          | false => exact .inl ⟨rfl, by simpa [isPlan, areCallers, e2] using q⟩
                          | true =>
                          refine .inr ⟨rfl, ?_⟩
                          have okss : Ok 3 10000 50 (.tuple ((strsOf cs).map PyData.str)) := by
                            rw [← strs_eq e]
                            exact okc
                          have ec : areCallers (.tuple cs) = true := by simp only [areCallers, g1, g2, e, e2, decide_true, Bool.and_self]
                          refine lc_pure vs (fun d => .bool (isWay i (strsOf cs) d)) (fun R r => by walk_at "dl"; exact r) (small4 (okv.items_len rfl)) (fun d hd μ' R r => ?_) ?_
                          · walk_at "dl"
                            refine ⟨d, i, strsOf cs, ?_, (okv.item rfl hd).1, okss, r⟩
                            rw [← strs_eq e]
                          · refine all_map _ (isWay i (strsOf cs)) _ μ ?_
                            cases e3 : vs.all (isWay i (strsOf cs)) with
                            | false => exact .inl ⟨rfl, by simpa [isPlan, er, ec, areWays, g4, e3, intOf, tupOf] using q⟩
                            | true =>
                              refine .inr ⟨rfl, ?_⟩
                              refine lc_pure vs firstD (fun R r => by walk_at "dl"; exact r) (small4 (okv.items_len rfl)) (fun d hd μ' R r => ?_) ?_
                              · obtain ⟨n, rr, rfl⟩ := first_way (List.all_eq_true.mp e3 d hd)
                                walk_at "dl"
                                simpa [firstD] using r
                              · refine ⟨_, strsOf (vs.map firstD), rfl, congrArg some (first_strs e3), ?_, ?_⟩
                                · unfold strsOf
                                  rw [List.length_map, List.length_map]
                                  exact small4 (okv.items_len rfl)
                                · simpa [isPlan, er, ec, areWays, g4, e3, intOf, tupOf] using q
                    | _ =>
                      rw [if_neg (by simp)]
                      simpa [isPlan, areWays] using q
                · rw [if_neg g2]
                  simpa [isPlan, areCallers, g2] using q
              · rw [if_neg g1]
                simpa [isPlan, areCallers, g1] using q
            | _ =>
              rw [if_neg (by simp)]
              simpa [isPlan, areCallers] using q
          · rw [if_neg h2]
            simpa [isPlan, numIn, h2] using q
        · rw [if_neg h1]
          simpa [isPlan, numIn, h1] using q
      | _ => exact .inl ⟨rfl, by simpa [isPlan, numIn] using q⟩
    · walk_at "dl"
      refine .inl ⟨by omega, ?_⟩
      rw [not_three h3] at q
      exact q
  | _ => walk_at "dl"; exact q
end
end K1


namespace K1
open PySem PySem.Spec PyProof.Rows L2 RZ DL
local macro_rules | `(tactic| walk_at "dl") => `(tactic| simp [and_assoc, mRet, mAnd, mOr, mCall, mCons, mVar, mCls, mNil, mC, oIsi, oIsi2, mNot, startD, mSeq, mIfS, mTOr, mTAnd, mTNot, mTest, mChain, mNext, oA1, oA2, oIB, oII, oII0, mOp, mUn, mAsg, mgName, mgTup, mgCons_c, mgNil_n, zipAs_l, zipAs_t, oSl_l, oSl_t, oSl_s, oSl_r, mPart, mSl, mIf, wipeD, oSign, oSS, oLen, LenD_s, LenD_l, LenD_t, LenD_m, miZ, miS, miT, miL, miE, miR, oEq, oNe, eqD_i, eqD_b, eqD_s, oInT, oIx, ixD_l, ixD_t, ixD_s, ixD_m, ix0, ix1, ix2, ix3, oAbs, oInt, oMax, oMin, mPar, mPar3, mTup, mLst, mLstM, asD, mExpr, itemsD_l, itemsD_t, oNeg, mgSub, mset_same, isStr, isTup, isLst, isBool, DL.isInt])
section
variable {P : Program} {w : World} {K : PySem.W.Frag} {mg : Str → Option Value} {base : Heap}
/-! ### the tape -/
/-- at t stands a tape from which so many at most have been drawn -/
def TapeAt (t : Addr) (n : Int) (μ : Mu) : Prop := ∃ a b c : Int, μ t = some (.lst [.dat (.int a), .dat (.int b), .dat (.int c)]) ∧ 0 ≤ a ∧ 0 ≤ b ∧ b < 2 ^ 62 ∧ 0 ≤ c ∧ c ≤ n
/-- all but the cell t is as it was -/
def Fr (t : Addr) (μ μ' : Mu) : Prop := ∀ b, b ≠ t → μ' b = μ b
theorem Fr.refl (t : Addr) (μ : Mu) : Fr t μ μ := fun _ _ => rfl
theorem Fr.trans {t : Addr} {μ μ1 μ2 : Mu} (h : Fr t μ μ1) (h2 : Fr t μ1 μ2) : Fr t μ μ2 := fun b hb => (h2 b hb).trans (h b hb)
theorem fr_set (t : Addr) (μ : Mu) (o : Option MO) : Fr t μ (mset μ t o) := fun b hb => mset_ne hb
theorem TapeAt.le {t : Addr} {n m : Int} {μ : Mu} (h : TapeAt t n μ) (e : n ≤ m) : TapeAt t m μ := by
  obtain ⟨a, b, c, h1, h2, h3, h4, h5, h6⟩ := h
  exact ⟨a, b, c, h1, h2, h3, h4, h5, by omega⟩
def d_law_draw : DOs := fun as μ Q => ∃ t m n, as = [.mut t, .dat (.int m)] ∧ TapeAt t n μ ∧ n ≤ 1000000 ∧ 1 ≤ m ∧ m ≤ 1000000 ∧ ∀ r μ', 0 ≤ r → r < m → TapeAt t (n + 1) μ' → Fr t μ μ' → Q (.dat (.int r)) μ'
theorem ok_law_draw (T : Txt K mg) {f : Addr} {fd : FuncData} (D : DefAt K mg "_law_draw" s_law_draw ["tape", "many"] f fd) : Prm P w K mg base 1 "_law_draw" 2 d_law_draw := by
  refine prm_of D sc_law_draw rfl (fun as μ Q ⟨t, m, n, e, _⟩ => by rw [e]; rfl) fun cdv A out s H hr hg => ⟨_, _,
(db_cons (ds_if (dt_cmp op_gt so_IB (de_ix (de_var (pv 0)) de_int (fun _ _ => rfl)) de_int) (db_cons (ds_setE (i := 2) sc_law_draw.nd rfl (by first | exact Or.inl rfl | exact Or.inr rfl) (de_op op_mod so_II (de_ix (de_var (pv 0)) de_int (fun _ _ => rfl)) (de_var (pv 1))))
    (db_cons (ds_asg (vs := []) (de_op op_fdivW so_II (de_ix (de_var (pv 0)) de_int (fun _ _ => rfl)) (de_var (pv 1))) (dg_subE (de_var (pv 0)) de_int))
    (db_one (ds_ret (de_var (pv 2)))))) db_nil)
    (db_cons (ds_asg (vs := []) (de_op op_add so_II0 (de_ix (de_var (pv 0)) de_int (fun _ _ => rfl)) de_int) (dg_subE (de_var (pv 0)) de_int))
    (db_cons (ds_setE (i := 3) sc_law_draw.nd rfl (by first | exact Or.inl rfl | exact Or.inr rfl) (de_op op_mod so_II (de_op op_pow so_II (de_op op_add so_II0 (de_ix (de_var (pv 0)) de_int (fun _ _ => rfl)) (de_op op_mul so_II de_int (de_ix (de_var (pv 0)) de_int (fun _ _ => rfl)))) de_int) de_int))
    (db_cons (ds_setE (i := 4) sc_law_draw.nd rfl (by first | exact Or.inl rfl | exact Or.inr rfl) (de_op op_mod so_II (de_op op_mul so_II (de_op op_add so_II0 (de_var (pv 3)) (de_ix (de_var (pv 0)) de_int (fun _ _ => rfl))) (de_op op_add so_II0 (de_op op_add so_II0 (de_op op_mod so_II (de_var (pv 3)) de_int) de_int) (de_ix (de_var (pv 0)) de_int (fun _ _ => rfl)))) de_int))
    (db_cons (ds_setE (i := 5) sc_law_draw.nd rfl (by first | exact Or.inl rfl | exact Or.inr rfl) (de_op op_mod so_II (de_op op_add so_II0 (de_op op_add so_II0 (de_op op_fdivW so_II (de_ix (de_var (pv 0)) de_int (fun _ _ => rfl)) de_int) (de_op op_mul so_II (de_var (pv 4)) de_int)) (de_ix (de_var (pv 0)) de_int (fun _ _ => rfl))) de_int))
    (db_one (ds_ret (de_op op_mod so_II (de_op op_fdivW so_II (de_op op_mod so_II (de_op op_add so_II0 (de_op op_add so_II0 (de_op op_mul so_II (de_var (pv 4)) de_int) (de_op op_mul so_II (de_var (pv 5)) de_int)) (de_var (pv 3))) de_int) de_int) (de_var (pv 1))))))))))
    , fun as μ Q ⟨t, m, n, e, ⟨a, b, c, ht, ha, hb, hb2, hc, hc2⟩, hn, hm, hm2, q⟩ => ?_⟩
  subst e
  walk_at "dl"
  simp [ht, ix0, ix1, ix2, show ixN 3 0 = some 0 from rfl, show ixN 3 2 = some 2 from rfl]
  by_cases h0 : 0 < a
  · rw [if_pos h0]
    refine ⟨by omega, divw (by omega) (by omega), q _ _ (Int.emod_nonneg _ (by omega)) (Int.emod_lt_of_pos _ (by omega)) ⟨_, b, c, mset_same, Int.ediv_nonneg ha (by omega), hb, hb2, hc, by omega⟩ (fr_set _ _ _)⟩
  · rw [if_neg h0]
    have h1 := Int.emod_nonneg ((b + 39373 * (c + 1)) ^ 5) (b := 2147483647) (by decide)
    have h2 := Int.emod_lt_of_pos ((b + 39373 * (c + 1)) ^ 5) (b := 2147483647) (by decide)
    refine ⟨mulw (by decide) (by omega), ⟨by decide, by decide, by omega⟩, ?_⟩
    generalize (b + 39373 * (c + 1)) ^ 5 % 2147483647 = o at h1 h2 ⊢
    have h3 := Int.emod_nonneg o (b := 40009) (by decide)
    have h4 := Int.emod_lt_of_pos o (b := 40009) (by decide)
    generalize o % 40009 = o2 at h3 h4 ⊢
    refine ⟨mulw (by omega) (by omega), divw (by decide) (by decide), ?_⟩
    have h5 := Int.emod_nonneg ((o + (c + 1)) * (o2 + 7 + (c + 1))) (b := 2147483629) (by decide)
    have h6 := Int.emod_lt_of_pos ((o + (c + 1)) * (o2 + 7 + (c + 1))) (b := 2147483629) (by decide)
    generalize (o + (c + 1)) * (o2 + 7 + (c + 1)) % 2147483629 = tw at h5 h6 ⊢
    refine ⟨mulw (by omega) (by decide), mulw (by omega) (by decide), ?_⟩
    have h7 := Int.emod_nonneg (b / 2147483647 + tw * 40009 + (c + 1)) (b := 2305843009213693951) (by decide)
    have h8 := Int.emod_lt_of_pos (b / 2147483647 + tw * 40009 + (c + 1)) (b := 2305843009213693951) (by decide)
    generalize (b / 2147483647 + tw * 40009 + (c + 1)) % 2305843009213693951 = wd at h7 h8 ⊢
    exact ⟨mulw (by omega) (by decide), divw (by decide) (by decide), by omega, q _ _ (Int.emod_nonneg _ (by omega)) (Int.emod_lt_of_pos _ (by omega)) ⟨a, b, c + 1, mset_same, ha, hb, hb2, by omega, by omega⟩ (fr_set _ _ _)⟩
/-- the cell and its place make a tape -/
def intD : PyData → Int
  | .int i => i
  | _ => 0
def d_law_tape : DOs := fun as μ Q => ∃ (ns : List Int) (k : Nat), as = [.dat (.list (ns.map PyData.int)), .dat (.int (k : Nat))] ∧ k ≤ 1000 ∧ ns.length ≤ 1000 ∧ ∀ t μ', μ t = none → TapeAt t 0 μ' → Fr t μ μ' → Q (.mut t) μ'
theorem ok_law_tape (T : Txt K mg) {f : Addr} {fd : FuncData} (D : DefAt K mg "_law_tape" s_law_tape ["script", "k"] f fd) : Prm P w K mg base 1 "_law_tape" 2 d_law_tape := by
  refine prm_of D sc_law_tape rfl (fun as μ Q ⟨ns, k, e, _⟩ => by rw [e]; rfl) fun cdv A out s H hr hg => ⟨_, _,
(db_cons (ds_setE (i := 2) sc_law_tape.nd rfl (by first | exact Or.inl rfl | exact Or.inr rfl) (de_if (dt_cmp op_lt so_IB (de_var (pv 1)) (de_callB call_len (so_A1 so_len) (by rfl) T.n_len (by decide +kernel) (da_cons (de_var (pv 0)) da_nil))) (de_ix (de_var (pv 0)) (de_var (pv 1)) (fun _ _ => rfl)) de_int))
    (db_one (ds_ret (dm_lst (da_cons (de_op op_mul so_II (de_callB call_abs (so_A1 so_abs) (by rfl) T.n_abs (by decide +kernel) (da_cons (de_var (pv 2)) da_nil)) (de_callTy call_int1 (so_A1 so_int) (by rfl) T.n_int (by decide +kernel) (da_cons (de_cmp op_ge so_IB (de_callB call_abs (so_A1 so_abs) (by rfl) T.n_abs (by decide +kernel) (da_cons (de_var (pv 2)) da_nil)) (de_op op_pow so_II de_int de_int)) da_nil))) (da_cons (de_op op_add so_II0 (de_op op_add so_II0 (de_op op_mod so_II (de_var (pv 2)) de_int) (de_op op_mul so_II de_int (de_var (pv 1)))) de_int) (da_cons de_int da_nil)))))))
    , fun as μ Q ⟨ns, k, e, hk, hl, q⟩ => ?_⟩
  subst e
  walk_at "dl"
  have hs3 : 3 ≤ sizeLine := by decide
  have fin : ∀ (p : Addr) (x i : Int), μ p = none → 0 ≤ x → Q (.mut p) (mset μ p (some (.lst [.dat (.int x), .dat (.int (i % 2305843009213693951 + 39373 * (k : Nat) + 17)), .dat (.int 0)]))) := fun p x i hp hx => by
    have h1 := Int.emod_nonneg i (b := 2305843009213693951) (by decide)
    have h2 := Int.emod_lt_of_pos i (b := 2305843009213693951) (by decide)
    exact q p _ hp ⟨_, _, _, mset_same, hx, by omega, by omega, by omega, by omega⟩ (fr_set _ _ _)
  have hp10 : CPow 10 18 := ⟨by decide, by decide, by decide⟩
  by_cases h : k < ns.length
  · rw [if_pos h]
    have hx : atI (ns.map PyData.int) (k : Nat) = some (.int ns[k]) := atI_nat (by rw [List.getElem?_map, List.getElem?_eq_getElem h]; rfl)
    refine ⟨_, ⟨_, rfl, hx⟩, _, rfl, _, rfl, hp10, ?_⟩
    by_cases hc : 1000000000000000000 ≤ (if ns[k] < 0 then -ns[k] else ns[k])
    · refine .inr ⟨hc, .inr (by decide), _, rfl, mulw (by decide) (by omega), hs3, fun p hp => fin p _ _ hp (by split <;> omega)⟩
    · refine .inl ⟨by omega, .inr (by decide), _, rfl, mulw (by decide) (by omega), hs3, fun p hp => fin p _ _ hp (by decide)⟩
  · rw [if_neg h]
    refine ⟨hp10, .inr (by decide), mulw (by decide) (by omega), hs3, fun p hp => ?_⟩
    have := fin p 0 0 hp (by decide)
    simpa using this
/-! the script folded -/
def d_law_folded : DOs := fun as μ Q => ∃ (ns : List Int), as = [.raw ns, .dat (.int 4)] ∧ ns.length ≤ 63 ∧ ∀ cs : List Int, cs.length ≤ 4 → Q (.dat (.list (cs.map PyData.int))) μ
theorem enum_at {ds : List PyData} {i : Nat} {d : PyData} (h : (enumD ds)[i]? = some d) : ∃ x, ds[i]? = some x ∧ d = .tuple [.int (i : Nat), x] := by
  unfold enumD at h
  rw [List.getElem?_zipWith] at h
  cases e : ds[i]? with
  | none =>
    rw [e] at h
    cases hr : (List.range ds.length)[i]? <;> rw [hr] at h <;> cases h
  | some x =>
    have hi : i < ds.length := (List.getElem?_eq_some_iff.mp e).1
    rw [e, List.getElem?_range hi] at h
    cases h
    exact ⟨x, rfl, rfl⟩
theorem cut4_len {α : Type} (xs : List α) : (cutL xs none (some 4)).length = min 4 xs.length := by
  unfold cutL
  rw [HT.sIx_none, show HT.sIx xs.length xs.length (some 4) = min 4 xs.length from HT.sIx_nat xs.length _ 4]
  simp
theorem cut4_some {α : Type} {xs : List α} {hi : Option Int} {i : Nat} {x : α} (h : (cutL xs (some 4) hi)[i]? = some x) : 4 < xs.length := by
  unfold cutL at h
  rw [show HT.sIx xs.length 0 (some 4) = min 4 xs.length from HT.sIx_nat xs.length 0 4] at h
  have h1 := (List.getElem?_eq_some_iff.mp h).1
  rw [List.length_take, List.length_drop] at h1
  omega
abbrev cellsI (cs : List Int) : Option MO := some (.lst (cs.map fun c => AV.dat (.int c)))
theorem ok_law_folded (T : Txt K mg) {f : Addr} {fd : FuncData} (D : DefAt K mg "_law_folded" s_law_folded ["script", "many"] f fd) : Prm P w K mg base 1 "_law_folded" 2 d_law_folded := by
  refine prm_of D sc_law_folded rfl (fun as μ Q ⟨ns, e, _⟩ => by rw [e]; rfl) fun cdv A out s H hr hg => ⟨_, _,
(db_cons (ds_setE (i := 2) sc_law_folded.nd rfl (by first | exact Or.inl rfl | exact Or.inr rfl) (de_callTy call_list_of (so_A1 so_listM) (by rfl) T.n_list (by decide +kernel) (da_cons (de_slice (de_var (pv 0)) dp_none (dp_some (de_var (pv 1)))) da_nil)))
    (db_cons (ds_for (vs := [3, 4]) PassesOwn.never rfl (di_enumE (by rfl) T.n_enumerate (da_cons (de_slice (de_var (pv 0)) (dp_some (de_var (pv 1))) (dp_some de_int)) da_nil)) (dg_tup (K := K) (n := 2) rfl rfl (dgs_cons (dg_name (pg_name (i := 3) sc_law_folded.nd rfl (by first | exact Or.inl rfl | exact Or.inr rfl)) (by decide)) (dgs_cons (dg_name (pg_name (i := 4) sc_law_folded.nd rfl (by first | exact Or.inl rfl | exact Or.inr rfl)) (by decide)) dgs_nil))) (db_one (ds_asg (vs := []) (de_op op_add so_II0 (de_ix (de_var (pv 2)) (de_op op_mod so_II (de_var (pv 3)) (de_var (pv 1))) (fun _ _ => rfl)) (de_op op_mul so_II (de_var (pv 4)) (de_op op_add so_II0 (de_var (pv 3)) de_int))) (dg_subE (de_var (pv 2)) (de_op op_mod so_II (de_var (pv 3)) (de_var (pv 1)))))))
    (db_one (ds_ret (de_frz (de_var (pv 2)))))))
    , fun as μ Q ⟨ns, e, hl, q⟩ => ?_⟩
  subst e
  walk_at "dl"
  refine ⟨_, _, rfl, rfl, fun p hp => ?_⟩
  refine for_by (enumD ((cutL ns (some 4) (some 63)).map PyData.int)) (fun R r => by walk_at "dl"; exact r) (fun i δ' μ' => ∃ cs y3 y4, δ' = [some (.raw ns), some (.dat (.int 4)), some (.mut p), y3, y4] ∧ cs.length = min 4 ns.length ∧ μ' = mset μ p (cellsI cs)) ⟨cutL ns none (some 4), none, none, rfl, cut4_len ns, ?_⟩ (fun i d δ' μ' hd ⟨cs, y3, y4, e1, e2, e3⟩ => ?_) (fun δ' μ' ⟨cs, y3, y4, e1, e2, e3⟩ => ?_)
  · rfl
  · subst e1 e3
    obtain ⟨x, hx, rfl⟩ := enum_at hd
    rw [List.getElem?_map] at hx
    cases e : (cutL ns (some 4) (some 63))[i]? with
    | none => rw [e] at hx; cases hx
    | some z =>
    rw [e] at hx
    cases hx
    have h4 := cut4_some e
    have hl4 : cs.length = 4 := by omega
    have hz : (cutL ns (some 4) (some 63)).length ≤ 63 := by
      unfold cutL
      rw [List.length_take, List.length_drop]
      omega
    have hi : i < 63 := Nat.lt_of_lt_of_le (List.getElem?_eq_some_iff.mp e).1 hz
    walk_at "dl"
    have hm0 := Int.emod_nonneg (i : Int) (b := 4) (by decide)
    have hm1 := Int.emod_lt_of_pos (i : Int) (b := 4) (by decide)
    obtain ⟨j, hj⟩ : ∃ j : Nat, (i : Int) % 4 = (j : Int) := ⟨((i : Int) % 4).toNat, by omega⟩
    have hj4 : j < cs.length := by omega
    rw [hj]
    have hat : atI (cs.map fun c => AV.dat (.int c)) (j : Int) = some (.dat (.int cs[j])) := atI_nat (by rw [List.getElem?_map, List.getElem?_eq_getElem hj4]; rfl)
    have hix : ixN cs.length (j : Int) = some j := by
      unfold ixN
      rw [if_pos (by omega), if_pos (by omega)]
      simp
    refine ⟨_, hat, .inr (by omega), _, rfl, j, hix, cs.set j (cs[j] + z * (i + 2)), by rw [List.length_set, hl4, ← e2, hl4], ?_⟩
    rw [mset_mset]
    simp only [cellsI, List.map_set]
  · subst e1 e3
    walk_at "dl"
    simp [mFrz, mVar]
    refine ⟨cs.map PyData.int, by rw [mset_same, List.map_map]; rfl, ?_⟩
    rw [mset_none hp]
    exact q cs (by omega)
end
end K1


namespace K1
open PySem PySem.Spec PyProof.Rows L2 RZ DL
local macro_rules | `(tactic| walk_at "dl") => `(tactic| simp [and_assoc, mRet, mAnd, mOr, mCall, mCons, mVar, mCls, mNil, mC, oIsi, oIsi2, mNot, startD, mSeq, mIfS, mTOr, mTAnd, mTNot, mTest, mChain, mNext, oA1, oA2, oIB, oII, oII0, mOp, mUn, mAsg, mgName, mgTup, mgCons_c, mgNil_n, zipAs_l, zipAs_t, oSl_l, oSl_t, oSl_s, oSl_r, mPart, mSl, mIf, wipeD, oSign, oSS, oLen, LenD_s, LenD_l, LenD_t, LenD_m, miZ, miS, miT, miL, miE, miR, oEq, oNe, eqD_i, eqD_b, eqD_s, oInT, oIx, ixD_l, ixD_t, ixD_s, ixD_m, ix0, ix1, ix2, ix3, oAbs, oInt, oMax, oMin, mPar, mPar3, mTup, mLst, mLstM, asD, mExpr, itemsD_l, itemsD_t, oNeg, mgSub, mset_same, isStr, isTup, isLst, isBool, DL.isInt])
section
variable {P : Program} {w : World} {K : PySem.W.Frag} {mg : Str → Option Value} {base : Heap}
/-- a comprehension whose element draws from a tape, k times at most -/
theorem lc_fr {MI : DIx} {G : DGx} {ME : DEx} {vs : List Nat} {δ : Dl} {μ μ1 : Mu} {P : DV} (t : Addr) (n k : Int) (p : PyData → Prop) (ds : List PyData) (hi : ∀ R : List PyData → Mu → Prop, R ds μ1 → MI δ μ R) (hz : ds.length ≤ sizeLine) (h0 : TapeAt t n μ1)
    (h : ∀ (i : Nat) d, ds[i]? = some d → ∀ (μ' : Mu) (R : DV), TapeAt t (n + k * (i : Nat)) μ' → (∀ e μ2, p e → TapeAt t (n + k * i + k) μ2 → Fr t μ' μ2 → R (.dat e) μ2) → G (.dat d) (wipeD δ vs) μ' fun δ2 μ2 => ME δ2 μ2 R)
    (hP : ∀ acc μ', acc.length = ds.length → (∀ e ∈ acc, p e) → TapeAt t (n + k * ds.length) μ' → Fr t μ1 μ' → P (.dat (.list acc)) μ') : mLc MI G (fun _ μ P => P true μ) ME vs δ μ P := by
  have ht : μ1 t ≠ none := by
    obtain ⟨a, b, c, e, _⟩ := h0
    rw [e]
    simp
  have nt : ∀ D, μ1 D = none → D ≠ t := fun D hD e => ht (by rw [← e]; exact hD)
  refine lc_inv (μ1 := μ1) (fun (i : Nat) μ' => TapeAt t (n + k * (i : Nat)) μ' ∧ ∀ b, b ≠ t → μ1 b ≠ none → μ' b = μ1 b) p ds hi hz (fun i μ' D o hD ⟨j1, j2⟩ => ⟨?_, fun b hb hn => ?_⟩) ⟨by simpa using h0, fun _ _ _ => rfl⟩ (fun i d hd μ' R ⟨j1, j2⟩ r => ?_) fun acc μ' w1 w2 ⟨j1, j2⟩ w3 => ?_
  · obtain ⟨a, b, c, e, rest⟩ := j1
    exact ⟨a, b, c, by rw [mset_ne (nt D hD).symm]; exact e, rest⟩
  · have e : b ≠ D := fun z => hn (by rw [z]; exact hD)
    rw [mset_ne e]
    exact j2 b hb hn
  · refine h i d hd μ' R j1 fun e μ2 he ht2 hf => r e μ2 he ⟨?_, fun b hb hn => (hf b hb).trans (j2 b hb hn)⟩ fun D hD => hf D (nt D hD)
    have e1 : n + k * ((i + 1 : Nat) : Int) = n + k * i + k := by
      rw [Int.natCast_add, Int.mul_add]
      omega
    rw [e1]
    exact ht2
  · refine hP acc μ' w1 w2 j1 fun b hb => ?_
    by_cases e : μ1 b = none
    · rw [e, w3 b e]
    · exact j2 b hb e
theorem lc_frs {MI : DIx} {G : DGx} {ME : DEx} {vs : List Nat} {δ : Dl} {μ : Mu} {P : DV} (ok : List PyData → Mu → Prop) (hi : ∀ R : List PyData → Mu → Prop, (∀ ds μ1, ok ds μ1 → R ds μ1) → MI δ μ R) (t : Addr) (n k : Int) (p : PyData → Prop) (hz : ∀ ds μ1, ok ds μ1 → ds.length ≤ sizeLine ∧ TapeAt t n μ1)
    (h : ∀ ds μ1, ok ds μ1 → ∀ (i : Nat) d, ds[i]? = some d → ∀ (μ' : Mu) (R : DV), TapeAt t (n + k * (i : Nat)) μ' → (∀ e μ2, p e → TapeAt t (n + k * i + k) μ2 → Fr t μ' μ2 → R (.dat e) μ2) → G (.dat d) (wipeD δ vs) μ' fun δ2 μ2 => ME δ2 μ2 R)
    (hP : ∀ ds μ1, ok ds μ1 → ∀ acc μ', acc.length = ds.length → (∀ e ∈ acc, p e) → TapeAt t (n + k * ds.length) μ' → Fr t μ1 μ' → P (.dat (.list acc)) μ') : mLc MI G (fun _ μ P => P true μ) ME vs δ μ P :=
  hi _ fun ds μ1 q => lc_fr (MI := fun _ μ R => R ds μ) t n k p ds (fun _ r => r) (hz ds μ1 q).1 (hz ds μ1 q).2 (h ds μ1 q) (hP ds μ1 q)
/-! ### names -/
theorem rangeD_len (n : Nat) : (rangeD 0 n).length = n := by simp [rangeD]
theorem rangeD_get {n i : Nat} {d : PyData} (h : (rangeD 0 n)[i]? = some d) : d = .int (i : Nat) ∧ i < n := by
  have hi : i < n := by
    have := (List.getElem?_eq_some_iff.mp h).1
    rwa [rangeD_len] at this
  unfold rangeD at h
  rw [List.getElem?_map, List.getElem?_range hi] at h
  cases h
  exact ⟨by simp, hi⟩
def nameOk (s : Str) : Prop := s.length ≤ 20 ∧ ∀ c ∈ s.cps.toList, c < 128
theorem let_at {r : Int} (h0 : 0 ≤ r) (h1 : r < 26) : ∃ c : Nat, atI (Str.ofString "abcdefghijklmnopqrstuvwxyz").cps.toList r = some c ∧ c < 128 := by
  obtain ⟨j, rfl⟩ : ∃ j : Nat, r = (j : Int) := ⟨r.toNat, by omega⟩
  have hall : ∀ i : Nat, i < 26 → ∃ c, (Str.ofString "abcdefghijklmnopqrstuvwxyz").cps.toList[i]? = some c ∧ c < 128 := by
    have : ∀ i : Fin 26, ((Str.ofString "abcdefghijklmnopqrstuvwxyz").cps.toList[i.val]?.any fun c => decide (c < 128)) = true := by decide +kernel
    intro i hi
    have q := this ⟨i, hi⟩
    cases e : (Str.ofString "abcdefghijklmnopqrstuvwxyz").cps.toList[i]? with
    | none => simp only [e] at q; cases q
    | some c => simp only [e, Option.any_some, decide_eq_true_eq] at q; exact ⟨c, rfl, q⟩
  obtain ⟨c, hc, hc2⟩ := hall j (by omega)
  exact ⟨c, atI_nat hc, hc2⟩
theorem let_len : (Str.ofString "abcdefghijklmnopqrstuvwxyz").length ≤ sizeLine := by decide +kernel
def oneSign (d : PyData) : Prop := ∃ c : Nat, d = .str ⟨#[c]⟩ ∧ c < 128
theorem ones : ∀ {acc : List PyData}, (∀ e ∈ acc, oneSign e) → ∃ ys : List Str, acc = ys.map PyData.str ∧ ∀ y ∈ ys, ∃ c : Nat, y = ⟨#[c]⟩ ∧ c < 128
  | [], _ => ⟨[], rfl, by simp⟩
  | d :: acc, h => by
    obtain ⟨c, rfl, hc⟩ := h d List.mem_cons_self
    obtain ⟨ys, rfl, hy⟩ := ones fun e he => h e (List.mem_cons_of_mem _ he)
    refine ⟨⟨#[c]⟩ :: ys, rfl, fun y hy' => ?_⟩
    rcases List.mem_cons.mp hy' with e | e
    · exact ⟨c, e, hc⟩
    · exact hy y e
theorem ones_sum : ∀ {ys : List Str}, (∀ y ∈ ys, ∃ c : Nat, y = ⟨#[c]⟩ ∧ c < 128) → (ys.map (·.length)).sum = ys.length
  | [], _ => rfl
  | y :: ys, h => by
    obtain ⟨c, rfl, _⟩ := h y List.mem_cons_self
    have ih := ones_sum fun e he => h e (List.mem_cons_of_mem _ he)
    rw [List.map_cons, List.sum_cons, ih, List.length_cons]
    show 1 + ys.length = ys.length + 1
    omega
theorem join_ones {ys : List Str} (h : ∀ y ∈ ys, ∃ c : Nat, y = ⟨#[c]⟩ ∧ c < 128) : (Txt.join (Str.ofString "") ys).length ≤ ys.length ∧ ∀ c ∈ (Txt.join (Str.ofString "") ys).cps.toList, c < 128 := by
  have e : Txt.join (Str.ofString "") ys = Str.join (Str.ofString "") ys := StrLaws.glued_eq_join _ _
  rw [e]
  constructor
  · have h1 := StrLaws.join_length_le (Str.ofString "") ys
    rw [ones_sum h] at h1
    have h2 : ys.length * (Str.ofString "").length = 0 := rfl
    omega
  · intro c hc
    rcases (PyProof.Rows.mem_join _ c ys).mp hc with ⟨y, hy, hcy⟩ | ⟨_, hc0⟩
    · obtain ⟨c', rfl, hc'⟩ := h y hy
      have : c = c' := by simpa using hcy
      omega
    · have hc1 : c ∈ ([] : List Nat) := hc0
      cases hc1
theorem cut_ok {z : Str} {n : Nat} (lo hi : Option Int) (h1 : z.length ≤ n) (h2 : ∀ c ∈ z.cps.toList, c < 128) : (cutS z lo hi).length ≤ n ∧ ∀ c ∈ (cutS z lo hi).cps.toList, c < 128 := by
  refine ⟨Nat.le_trans (cutS_length z lo hi) h1, fun c hc => h2 c ?_⟩
  unfold cutS at hc
  have hc' := List.mem_of_mem_take (by simpa using hc)
  exact List.mem_of_mem_drop hc'
theorem str_append_mem {a b : Str} {c : Nat} (h : c ∈ (a ++ b).cps.toList) : c ∈ a.cps.toList ∨ c ∈ b.cps.toList := by
  have e : (a ++ b).cps.toList = a.cps.toList ++ b.cps.toList := by
    show (a.cps ++ b.cps).toList = _
    rw [Array.toList_append]
  rw [e] at h
  exact List.mem_append.mp h
theorem str_append_len (a b : Str) : (a ++ b).length = a.length + b.length := by
  show (a.cps ++ b.cps).size = _
  rw [Array.size_append]
  rfl
theorem name_ok {head z : Str} {c : Nat} (hc : c < 128) (h1 : head.length ≤ 7) (h2 : ∀ c ∈ head.cps.toList, c < 128) (h3 : z.length ≤ 7) (h4 : ∀ c ∈ z.cps.toList, c < 128) : nameOk (head ++ ⟨#[c]⟩ ++ z) := by
  refine ⟨?_, fun d hd => ?_⟩
  · rw [str_append_len, str_append_len]
    have : (⟨#[c]⟩ : Str).length = 1 := rfl
    omega
  · rcases str_append_mem hd with h | h
    · rcases str_append_mem h with h | h
      · exact h2 d h
      · have : d = c := by simpa using h
        omega
    · exact h4 d h
theorem app_ok {w : Int} {i : Nat} {a0 a1 a2 a3 a4 a5 a6 : Option AV} {p : Addr} {head tail : Str} {c : Nat} {μ : Mu} {as : List AV} {R : DV} (hw : w = 0 ∨ w = 1 ∨ w = 2) (hi : i < 22) (h1 : head.length ≤ 7) (h3 : tail.length ≤ 7) (h4 : ∀ c ∈ tail.cps.toList, c < 128)
    (hp : μ p = some (.lst as)) (ha : as.length < sizeLine) (hR : ∀ z : Str, z.length ≤ tail.length → (∀ c ∈ z.cps.toList, c < 128) → R (.dat .none) (mset μ p (some (.lst (as ++ [.dat (.str (head ++ ⟨#[c]⟩ ++ z))]))))) :
    mAppend (mVar 7) (mCons (mOp oAddS (mOp oAddS (mVar 8) (mVar 12)) (mOp oIx (mLst (mCons (mVar 9) (mCons (mOp oMul01 (mVar 9) (mOp (oII (fun x j => 0 < j) fun i j => i % j) (mVar 10) (mC (PyData.int 2)))) (mCons (mSl (mVar 9) (fun x μ P => P none μ) (mPart (mOp (oII (fun x j => 0 < j) fun i j => i % j) (mVar 10) (mOp (oII0 fun i j => i + j) (mCall (oA1 oLen) (mCons (mVar 9) mNil)) (mC (PyData.int 1)))))) mNil)))) (mVar 11))) mNil)
      [a0, a1, a2, a3, a4, a5, a6, some (.mut p), some (.dat (.str head)), some (.dat (.str tail)), some (.dat (.int i)), some (.dat (.int w)), some (.dat (.str ⟨#[c]⟩))] μ R := by
  have hpar : (i : Int) % 2 = 0 ∨ (i : Int) % 2 = 1 := by omega
  have hl1 : (⟨#[c]⟩ : Str).length = 1 := rfl
  have hs : sizeLine = 16777216 := sizeLine_eq
  have htl : tail.length ≤ sizeLine := by omega
  have hcl : ∀ k : Int, (cutS tail none (some k)).length ≤ tail.length ∧ ∀ c ∈ (cutS tail none (some k)).cps.toList, c < 128 := fun k => cut_ok none (some k) (Nat.le_refl _) h4
  have hmod : 0 < (tail.length : Int) + 1 := by omega
  obtain ⟨h5, h6⟩ := hcl ((i : Int) % ((tail.length : Int) + 1))
  refine ⟨_, rfl, _, as, rfl, hp, ?_⟩
  walk_at "dl"
  have he : (head ++ (⟨#[c]⟩ : Str)).length = head.length + 1 := by rw [str_append_len, hl1]
  have key : ∀ z : Str, z.length ≤ tail.length → (∀ c ∈ z.cps.toList, c < 128) → head.length + (⟨#[c]⟩ : Str).length ≤ sizeLine ∧ (head ++ (⟨#[c]⟩ : Str)).length + z.length ≤ sizeLine := fun z hz _ => ⟨by omega, by omega⟩
  refine ⟨head, ⟨#[c]⟩, rfl, rfl, by omega, ?_⟩
  refine ⟨tail, (i : Int) % 2, rfl, rfl, ?_⟩
  have fin : ∀ z : Str, z.length ≤ tail.length → (∀ c ∈ z.cps.toList, c < 128) → oAddS (.dat (.str (head ++ ⟨#[c]⟩))) (.dat (.str z)) μ fun x μ1 => ∃ as, μ1 p = some (.lst as) ∧ as.length < sizeLine ∧ R (.dat .none) (mset μ1 p (some (.lst (as ++ [x])))) := fun z hz hz2 =>
    ⟨_, z, rfl, rfl, (key z hz hz2).2, as, hp, ha, hR z hz hz2⟩
  have l3 : ∀ a b c : PyData, [a, b, c].length ≤ sizeLine := fun a b c => by
    show 3 ≤ sizeLine
    omega
  have e0 : Str.empty.length ≤ tail.length := Nat.zero_le _
  have e1 : ∀ c ∈ Str.empty.cps.toList, c < 128 := fun c hc => by
    have hc1 : c ∈ ([] : List Nat) := hc
    cases hc1
  rcases hpar with hq | hq
  · refine .inl ⟨hq, htl, _, ⟨_, rfl, rfl⟩, l3 _ _ _, ?_⟩
    rcases hw with rfl | rfl | rfl
    · exact ⟨_, ⟨_, rfl, ix0 _ _⟩, fin tail (Nat.le_refl _) h4⟩
    · exact ⟨_, ⟨_, rfl, ix1 _ _ _⟩, fin Str.empty e0 e1⟩
    · exact ⟨_, ⟨_, rfl, ix2 _ _ _ _⟩, fin _ h5 h6⟩
  · refine .inr ⟨hq, htl, htl, _, ⟨_, rfl, rfl⟩, l3 _ _ _, ?_⟩
    rcases hw with rfl | rfl | rfl
    · exact ⟨_, ⟨_, rfl, ix0 _ _⟩, fin tail (Nat.le_refl _) h4⟩
    · exact ⟨_, ⟨_, rfl, ix1 _ _ _⟩, fin tail (Nat.le_refl _) h4⟩
    · exact ⟨_, ⟨_, rfl, ix2 _ _ _ _⟩, fin _ h5 h6⟩
def d_law_names : DOs := fun as μ Q => ∃ t n, as = [.mut t, .dat (.int 22)] ∧ TapeAt t n μ ∧ n ≤ 900000 ∧ ∀ (ss : List Str) (μ' : Mu), ss.length = 22 → (∀ s ∈ ss, nameOk s) → TapeAt t (n + 20) μ' → Fr t μ μ' → Q (.dat (.list (ss.map PyData.str))) μ'
theorem ok_law_names (T : Txt K mg) (p_law_draw : Prm P w K mg base 1 "_law_draw" 2 d_law_draw) {f : Addr} {fd : FuncData} (D : DefAt K mg "_law_names" s_law_names ["tape", "many"] f fd) : Prm P w K mg base 2 "_law_names" 2 d_law_names := by
  refine prm_of D sc_law_names rfl (fun as μ Q ⟨t, n, e, _⟩ => by rw [e]; rfl) fun cdv A out s H hr hg => ⟨_, _,
(db_cons (ds_asg (vs := [2, 3]) (de_tup (da_cons de_str (da_cons (de_call p_law_draw (hr.mono (by decide)) hg (by rfl) (da_cons (de_var (pv 0)) (da_cons de_int da_nil))) da_nil))) (dg_tup (K := K) (n := 2) rfl rfl (dgs_cons (dg_name (pg_name (i := 2) sc_law_names.nd rfl (by first | exact Or.inl rfl | exact Or.inr rfl)) (by decide)) (dgs_cons (dg_name (pg_name (i := 3) sc_law_names.nd rfl (by first | exact Or.inl rfl | exact Or.inr rfl)) (by decide)) dgs_nil))))
    (db_cons (ds_setE (i := 4) sc_law_names.nd rfl (by first | exact Or.inl rfl | exact Or.inr rfl) (de_joinE de_str (de_lc (own := [("k", 10)]) rfl sc_law_names.nd (di_rangeE (by rfl) T.n_range (da_cons (de_call p_law_draw (hr.mono (by decide)) hg (by rfl) (da_cons (de_var (pv 0)) (da_cons de_int da_nil))) da_nil)) (blkOk_by (N := N_law_names) (sc := defScope s_law_names) (by decide +kernel)) (fun _ _ _ _ _ => (dg_name (pg_name (i := 10) sc_law_names.nd rfl (by first | exact Or.inl rfl | exact Or.inr rfl)) (by decide))) (fun _ _ _ _ _ => dts_nil) (fun _ _ _ _ _ => (de_ixC (K := K) rfl (de_var (pv 2)) (de_callC p_law_draw rfl rfl rfl rfl rfl (hr.mono (by decide)) hg (by rfl) (da_cons (de_var (pv 0)) (da_cons de_int da_nil))) (fun _ _ => rfl))))))
    (db_cons (ds_par3E (i := 5) (j := 6) (l := 7) rfl sc_law_names.nd rfl rfl rfl (by decide) (by decide) (by decide) rfl rfl rfl (da_cons (de_call p_law_draw (hr.mono (by decide)) hg (by rfl) (da_cons (de_var (pv 0)) (da_cons (de_op op_add so_II0 (de_callB call_len (so_A1 so_len) (by rfl) T.n_len (by decide +kernel) (da_cons (de_var (pv 4)) da_nil)) de_int) da_nil))) (da_cons (de_ix (de_lst (da_cons de_int (da_cons de_int (da_cons de_int da_nil)))) (de_call p_law_draw (hr.mono (by decide)) hg (by rfl) (da_cons (de_var (pv 0)) (da_cons de_int da_nil))) (fun _ _ => rfl)) (da_cons (dm_lst da_nil) da_nil))) rfl)
    (db_cons (ds_parE (i := 8) (j := 9) rfl sc_law_names.nd rfl rfl (by decide) rfl rfl (da_cons (de_slice (de_var (pv 4)) dp_none (dp_some (de_var (pv 5)))) (da_cons (de_slice (de_var (pv 4)) (dp_some (de_var (pv 5))) dp_none) da_nil)) rfl)
    (db_cons (ds_for (vs := [10]) PassesOwn.never rfl (di_rangeE (by rfl) T.n_range (da_cons (de_var (pv 1)) da_nil)) (dg_name (pg_name (i := 10) sc_law_names.nd rfl (by first | exact Or.inl rfl | exact Or.inr rfl)) (by decide)) (db_cons (ds_setE (i := 11) sc_law_names.nd rfl (by first | exact Or.inl rfl | exact Or.inr rfl) (de_op op_mul so_II (de_op op_mod so_II (de_op op_add so_II0 (de_op op_add so_II0 (de_var (pv 3)) (de_var (pv 5))) (de_callB call_len (so_A1 so_len) (by rfl) T.n_len (by decide +kernel) (da_cons (de_var (pv 4)) da_nil))) de_int) (de_callTy call_int1 (so_A1 so_int) (by rfl) T.n_int (by decide +kernel) (da_cons (de_cmp op_ne so_ne (de_var (pv 9)) de_str) da_nil))))
    (db_cons (ds_setE (i := 12) sc_law_names.nd rfl (by first | exact Or.inl rfl | exact Or.inr rfl) (de_ix (de_var (pv 2)) (de_op op_mod so_II (de_op op_add so_II0 (de_var (pv 3)) (de_op op_mul so_II (de_var (pv 6)) (de_ix (de_lst (da_cons (de_var (pv 10)) (da_cons (de_op op_fdivW so_II (de_var (pv 10)) de_int) (da_cons (de_var (pv 10)) da_nil)))) (de_var (pv 11)) (fun _ _ => rfl)))) de_int) (fun _ _ => rfl)))
    (db_one (ds_expr (de_appendE (de_var (pv 7)) (da_cons (de_op op_add_str so_addS (de_op op_add_str so_addS (de_var (pv 8)) (de_var (pv 12))) (de_ix (de_lst (da_cons (de_var (pv 9)) (da_cons (de_op op_01 so_01 (de_var (pv 9)) (de_op op_mod so_II (de_var (pv 10)) de_int)) (da_cons (de_slice (de_var (pv 9)) dp_none (dp_some (de_op op_mod so_II (de_var (pv 10)) (de_op op_add so_II0 (de_callB call_len (so_A1 so_len) (by rfl) T.n_len (by decide +kernel) (da_cons (de_var (pv 9)) da_nil)) de_int)))) da_nil)))) (de_var (pv 11)) (fun _ _ => rfl))) da_nil)))))))
    (db_one (ds_ret (de_frz (de_var (pv 7))))))))))
    , fun as μ Q ⟨t, n, e, ht, hn, q⟩ => ?_⟩
  subst e
  walk_at "dl"
  refine ⟨t, 26, n, rfl, ht, by omega, by decide, by decide, fun sh μ1 hs0 hs1 ht1 hf1 => ?_⟩
  walk_at "dl"
  refine ⟨by decide, lc_frs (fun ds μ2 => ∃ r : Int, 0 ≤ r ∧ r < 8 ∧ ds = rangeD 0 r.toNat ∧ TapeAt t (n + 2) μ2 ∧ Fr t μ μ2) (fun R hR => ?_) t (n + 2) 1 oneSign (fun ds μ2 ⟨r, h0, h1, e, ht2, _⟩ => ⟨?_, ht2⟩) (fun ds μ2 ⟨r, h0, h1, e, ht2, hf2⟩ i d hd μ' R hti hR => ?_) fun ds μ2 ⟨r, h0, h1, e, ht2, hf2⟩ acc μ3 hl hacc ht3 hf3 => ?_⟩
  · walk_at "dl"
    refine ⟨t, 8, n + 1, rfl, ht1, by omega, by decide, by decide, fun r μ2 h0 h1 ht2 hf2 => ⟨r, rfl, by omega, by omega, hR _ _ ⟨r, h0, h1, rfl, ht2.le (by omega), hf1.trans hf2⟩⟩⟩
  · rw [e, rangeD_len, sizeLine_eq]
    omega
  · subst e
    obtain ⟨rfl, hi⟩ := rangeD_get hd
    walk_at "dl"
    refine ⟨t, 26, n + 2 + 1 * i, rfl, hti, by omega, by decide, by decide, fun r2 μ4 h2 h3 ht4 hf4 => ?_⟩
    obtain ⟨c, hc, hc2⟩ := let_at h2 h3
    exact ⟨r2, rfl, _, ⟨c, rfl, let_len, hc⟩, hR _ _ ⟨c, rfl, hc2⟩ ht4 hf4⟩
  · subst e
    rw [rangeD_len] at hl ht3
    obtain ⟨ys, rfl, hys⟩ := ones hacc
    rw [List.length_map] at hl
    have hl8 : ys.length ≤ 7 := by omega
    obtain ⟨hst1, hst2⟩ := join_ones hys
    refine ⟨Str.ofString "", _, ys, rfl, rfl, rfl, ?_, ?_⟩
    · rw [ones_sum hys]
      show ys.length + ys.length * 0 ≤ _
      omega
    generalize Txt.join (Str.ofString "") ys = stem at hst1 hst2 ⊢
    have hsl : stem.length ≤ sizeLine := by rw [sizeLine_eq]; omega
    refine ⟨stem.length, by rw [LenD_s]; exact ⟨hsl, rfl⟩, t, _, n + 9, rfl, ht3.le (by omega), by omega, by omega, by omega, fun at_ μ4 h2 h3 ht4 hf4 => ?_⟩
    refine ⟨by decide, t, 3, n + 10, rfl, ht4.le (by omega), by omega, by decide, by decide, fun si μ5 h4 h5 ht5 hf5 => ?_⟩
    obtain ⟨st, hst⟩ : ∃ st : Int, atI [PyData.int 1, PyData.int 7, PyData.int 25] si = some (.int st) ∧ 0 ≤ st ∧ st ≤ 25 := by
      obtain rfl | rfl | rfl : si = 0 ∨ si = 1 ∨ si = 2 := by omega
      · exact ⟨1, ix0 _ _, by decide, by decide⟩
      · exact ⟨7, ix1 _ _ _, by decide, by decide⟩
      · exact ⟨25, ix2 _ _ _ _, by decide, by decide⟩
    refine ⟨si, rfl, .dat (.int st), ⟨_, rfl, hst.1⟩, fun p hp => ⟨at_, rfl, ?_⟩⟩
    rw [oSl_s]
    refine ⟨hsl, at_, rfl, ?_⟩
    rw [oSl_s]
    refine ⟨hsl, ?_⟩
    obtain ⟨hh1, hh2⟩ := cut_ok none (some at_) hst1 hst2
    obtain ⟨hu1, hu2⟩ := cut_ok (some at_) none hst1 hst2
    generalize cutS stem none (some at_) = head at hh1 hh2 ⊢
    generalize cutS stem (some at_) none = tail at hu1 hu2 ⊢
    refine for_by (rangeD 0 22) (fun R r => by walk_at "dl"; exact r) (fun i δ' μ' => ∃ (ss : List Str) (y1 y2 y3 : Option AV), δ' = [some (.mut t), some (.dat (.int 22)), some (.dat (.str (Str.ofString "abcdefghijklmnopqrstuvwxyz"))), some (.dat (.int sh)), some (.dat (.str stem)), some (.dat (.int at_)), some (.dat (.int st)), some (.mut p), some (.dat (.str head)), some (.dat (.str tail)), y1, y2, y3] ∧
      ss.length = i ∧ (∀ s ∈ ss, nameOk s) ∧ μ' = mset μ5 p (some (.lst (ss.map fun s => AV.dat (.str s))))) ⟨[], none, none, none, rfl, rfl, by simp, rfl⟩ (fun i d δ' μ' hd ⟨ss, y1, y2, y3, e1, e2, e3, e4⟩ => ?_) (fun δ' μ' ⟨ss, y1, y2, y3, e1, e2, e3, e4⟩ => ?_)
    · subst e1 e4
      obtain ⟨rfl, hi⟩ := rangeD_get hd
      have fin : ∀ (c : Nat) (z : Str), c < 128 → z.length ≤ 7 → (∀ c ∈ z.cps.toList, c < 128) → ∃ ss' : List Str, ss'.length = i + 1 ∧ (∀ s ∈ ss', nameOk s) ∧
          mset (mset μ5 p (some (.lst (ss.map fun s => AV.dat (.str s))))) p (some (.lst (ss.map (fun s => AV.dat (.str s)) ++ [.dat (.str (head ++ ⟨#[c]⟩ ++ z))]))) = mset μ5 p (some (.lst (ss'.map fun s => AV.dat (.str s)))) := fun c z hc hz hz2 => by
        refine ⟨ss ++ [head ++ ⟨#[c]⟩ ++ z], by simp [e2], fun s hs => ?_, by rw [mset_mset, List.map_append]; rfl⟩
        rcases List.mem_append.mp hs with h | h
        · exact e3 s h
        · rw [List.mem_singleton.mp h]
          exact name_ok hc (by omega) hh2 hz hz2
      have hls : ∀ x : Int, ∃ c : Nat, atI (Str.ofString "abcdefghijklmnopqrstuvwxyz").cps.toList (x % 26) = some c ∧ c < 128 := fun x => let_at (Int.emod_nonneg _ (by decide)) (Int.emod_lt_of_pos _ (by decide))
      have hpar : (i : Int) % 2 = 0 ∨ (i : Int) % 2 = 1 := by omega
      have htl : tail.length ≤ sizeLine := by rw [sizeLine_eq]; omega
      have hz0 : (0 : Nat) ≤ sizeLine := Nat.zero_le _
      walk_at "dl"
      refine ⟨hsl, ?_⟩
      by_cases htail : tail = Str.ofString ""
      · right
        refine ⟨htail, .inr (by decide), divw (by decide) (by decide), by decide, mulw (by omega) (by omega), ?_⟩
        obtain ⟨c, hc, hc2⟩ := hls (sh + st * i)
        refine ⟨_, ⟨c, rfl, let_len, hc⟩, ?_⟩
        refine app_ok (w := 0) (.inl rfl) (by omega) (by omega) (by omega) hu2 mset_same (by rw [List.length_map, e2, sizeLine_eq]; omega) fun z hz hz2 => ?_
        exact fin c z hc2 (by omega) hz2
      · left
        have hw0 := Int.emod_nonneg (sh + at_ + (stem.length : Int)) (b := 3) (by decide)
        have hw1 := Int.emod_lt_of_pos (sh + at_ + (stem.length : Int)) (b := 3) (by decide)
        generalize (sh + at_ + (stem.length : Int)) % 3 = w at hw0 hw1 ⊢
        have hw : w = 0 ∨ w = 1 ∨ w = 2 := by omega
        obtain ⟨x, hx, hx0, hx1⟩ : ∃ x : Int, atI [PyData.int i, PyData.int ((i : Int) / 2), PyData.int i] w = some (.int x) ∧ 0 ≤ x ∧ x ≤ 22 := by
          obtain rfl | rfl | rfl := hw
          · exact ⟨_, ix0 _ _, by omega, by omega⟩
          · exact ⟨_, ix1 _ _ _, by omega, by omega⟩
          · exact ⟨_, ix2 _ _ _ _, by omega, by omega⟩
        obtain ⟨c, hc, hc2⟩ := hls (sh + st * x)
        refine ⟨htail, .inr (by decide), divw (by decide) (by decide), by decide, _, ⟨_, rfl, hx⟩, x, rfl, mulw (by omega) (by omega), _, ⟨c, rfl, let_len, hc⟩, ?_⟩
        refine app_ok (w := w) hw (by omega) (by omega) (by omega) hu2 mset_same (by rw [List.length_map, e2, sizeLine_eq]; omega) fun z hz hz2 => ?_
        exact fin c z hc2 (by omega) hz2
    · subst e1 e4
      rw [rangeD_len] at e2
      walk_at "dl"
      simp [mFrz, mVar]
      refine ⟨ss.map PyData.str, by rw [mset_same, List.map_map]; rfl, ?_⟩
      rw [mset_none hp]
      exact q ss μ5 e2 e3 (ht5.le (by omega)) ((((hf2.trans hf3).trans hf4).trans hf5))
end
end K1


namespace K1
open PySem PySem.Spec PyProof.Rows L2 RZ DL
local macro_rules | `(tactic| walk_at "dl") => `(tactic| simp [and_assoc, mRet, mAnd, mOr, mCall, mCons, mVar, mCls, mNil, mC, oIsi, oIsi2, mNot, startD, mSeq, mIfS, mTOr, mTAnd, mTNot, mTest, mChain, mNext, oA1, oA2, oIB, oII, oII0, mOp, mUn, mAsg, mgName, mgTup, mgCons_c, mgNil_n, zipAs_l, zipAs_t, oSl_l, oSl_t, oSl_s, oSl_r, mPart, mSl, mIf, wipeD, oSign, oSS, oLen, LenD_s, LenD_l, LenD_t, LenD_m, miZ, miS, miT, miL, miE, miR, oEq, oNe, eqD_i, eqD_b, eqD_s, oInT, oIx, ixD_l, ixD_t, ixD_s, ixD_m, ix0, ix1, ix2, ix3, oAbs, oInt, oMax, oMin, mPar, mPar3, mTup, mLst, mLstM, asD, mExpr, itemsD_l, itemsD_t, oNeg, mgSub, mset_same, isStr, isTup, isLst, isBool, DL.isInt])
section
variable {P : Program} {w : World} {K : PySem.W.Frag} {mg : Str → Option Value} {base : Heap}
theorem ers {α β : Type} (f : α → β) : ∀ (l : List α) (j : Nat), (l.map f).eraseIdx j = (l.eraseIdx j).map f
  | [], _ => rfl
  | _ :: _, 0 => rfl
  | a :: l, j + 1 => by
    show f a :: (l.map f).eraseIdx j = f a :: (l.eraseIdx j).map f
    rw [ers f l j]
def isNameStr (d : PyData) : Prop := ∃ s, d = .str s ∧ nameOk s
def d_law_part : DOs := fun as μ Q => ∃ (t : Addr) (n : Int) (ss : List Str), as = [.mut t, .dat (.list (ss.map PyData.str)), .dat (.int 2)] ∧ TapeAt t n μ ∧ n ≤ 900000 ∧ 2 ≤ ss.length ∧ ss.length ≤ 30 ∧ (∀ s ∈ ss, nameOk s) ∧
  ∀ (s1 s2 : Str) (μ' : Mu), nameOk s1 → nameOk s2 → TapeAt t (n + 2) μ' → Fr t μ μ' → Q (.dat (.list [.str s1, .str s2])) μ'
theorem ok_law_part (T : Txt K mg) (p_law_draw : Prm P w K mg base 1 "_law_draw" 2 d_law_draw) {f : Addr} {fd : FuncData} (D : DefAt K mg "_law_part" s_law_part ["tape", "some", "many"] f fd) : Prm P w K mg base 2 "_law_part" 3 d_law_part := by
  refine prm_of D sc_law_part rfl (fun as μ Q ⟨t, n, ss, e, _⟩ => by rw [e]; rfl) fun cdv A out s H hr hg => ⟨_, _,
(db_cons (ds_setE (i := 3) sc_law_part.nd rfl (by first | exact Or.inl rfl | exact Or.inr rfl) (de_callTy call_list_of (so_A1 so_listM) (by rfl) T.n_list (by decide +kernel) (da_cons (de_var (pv 1)) da_nil)))
    (db_one (ds_ret (de_drp (de_lc (own := [("k", 4)]) rfl sc_law_part.nd (di_rangeE (by rfl) T.n_range (da_cons (de_var (pv 2)) da_nil)) (blkOk_by (N := N_law_part) (sc := defScope s_law_part) (by decide +kernel)) (fun _ _ _ _ _ => (dg_name (pg_name (i := 4) sc_law_part.nd rfl (by first | exact Or.inl rfl | exact Or.inr rfl)) (by decide))) (fun _ _ _ _ _ => dts_nil) (fun _ _ _ _ _ => (de_popC (K := K) rfl (de_var (pv 3)) (da_cons (de_callC p_law_draw rfl rfl rfl rfl rfl (hr.mono (by decide)) hg (by rfl) (da_cons (de_var (pv 0)) (da_cons (de_callBC (K := K) (rr := rLen) rfl call_len (so_A1 so_len) (by rfl) T.n_len (by decide +kernel) (da_cons (de_var (pv 3)) da_nil)) da_nil))) da_nil))))))))
    , fun as μ Q ⟨t, n, ss, e, ht, hn, hl, hl2, hs, q⟩ => ?_⟩
  subst e
  walk_at "dl"
  refine ⟨_, _, rfl, rfl, fun p hp => ?_⟩
  simp only [mDrp]
  have hpt : p ≠ t := fun e => by
    obtain ⟨a, b, c, h, _⟩ := ht
    rw [← e, hp] at h
    cases h
  refine lc_inv (μ1 := mset μ p (some (.lst ((ss.map PyData.str).map AV.dat)))) (fun i μ' => TapeAt t (n + i) μ' ∧ (∃ xs : List Str, μ' p = some (.lst ((xs.map PyData.str).map AV.dat)) ∧ xs.length + i = ss.length ∧ ∀ s ∈ xs, nameOk s) ∧ ∀ b, b ≠ t → b ≠ p → μ b ≠ none → μ' b = μ b) isNameStr (rangeD 0 2) (fun R r => by walk_at "dl"; simpa using r) (by decide) ?_ ?_ ?_ ?_
  · rintro i μ' D o hD ⟨⟨a, b, c, e, rest⟩, ⟨xs, hx, hx2⟩, h3⟩
    have n1 : p ≠ D := fun e => by rw [← e, mset_same] at hD; cases hD
    have n2 : t ≠ D := fun e => by
      obtain ⟨a, b, c, h, _⟩ := ht
      rw [← e, mset_ne hpt.symm, h] at hD
      cases hD
    refine ⟨⟨a, b, c, by rw [mset_ne n2]; exact e, rest⟩, ⟨xs, by rw [mset_ne n1]; exact hx, hx2⟩, fun b hb hb2 hn => ?_⟩
    have n3 : b ≠ D := fun e => by
      rw [← e, mset_ne hb2] at hD
      exact hn hD
    rw [mset_ne n3]
    exact h3 b hb hb2 hn
  · obtain ⟨a, b, c, e, rest⟩ := ht
    exact ⟨⟨a, b, c, by rw [mset_ne hpt.symm]; exact e, by simpa using rest⟩, ⟨ss, mset_same, rfl, hs⟩, fun b _ hb _ => mset_ne hb⟩
  · rintro i d hd μ' R ⟨ht1, ⟨xs, hx, hxl, hxs⟩, h3⟩ r
    obtain ⟨rfl, hi⟩ := rangeD_get hd
    simp only [mPop]
    walk_at "dl"
    have hxl1 : 1 ≤ xs.length := by omega
    refine ⟨⟨_, hx⟩, xs.length, ⟨_, hx, by simp⟩, t, xs.length, n + i, rfl, ht1, by omega, by omega, by omega, fun x μ4 h0 h1 ht4 hf4 => ?_⟩
    obtain ⟨j, rfl⟩ : ∃ j : Nat, x = (j : Int) := ⟨x.toNat, by omega⟩
    have hj : j < xs.length := by omega
    have hx4 : μ4 p = some (.lst ((xs.map PyData.str).map AV.dat)) := (hf4 p hpt).trans hx
    refine ⟨_, j, rfl, hx4, ?_, .dat (.str xs[j]), ?_, ?_⟩
    · rw [List.length_map, List.length_map, sizeLine_eq]
      omega
    · rw [List.getElem?_map, List.getElem?_map, List.getElem?_eq_getElem hj]
      rfl
    · refine r _ _ ⟨_, rfl, hxs _ (List.getElem_mem hj)⟩ ⟨?_, ⟨xs.eraseIdx j, ?_, ?_, fun s hs' => hxs s (List.mem_of_mem_eraseIdx hs')⟩, fun b hb hb2 hn => ?_⟩ fun D hD => ?_
      · obtain ⟨a, b, c, e, e1, e2, e3, e4, e5⟩ := ht4
        exact ⟨a, b, c, by rw [mset_ne hpt.symm]; exact e, e1, e2, e3, e4, by omega⟩
      · rw [mset_same, ers, ers]
      · rw [List.length_eraseIdx_of_lt hj]
        omega
      · rw [mset_ne hb2, hf4 b hb]
        exact h3 b hb hb2 hn
      · have n1 : D ≠ p := fun e => by rw [e, mset_same] at hD; cases hD
        have n2 : D ≠ t := fun e => by
          obtain ⟨a, b, c, h, _⟩ := ht
          rw [e, mset_ne hpt.symm, h] at hD
          cases hD
        rw [mset_ne n1, hf4 D n2]
  · rintro acc μ' hla hacc ⟨ht1, _, h3⟩ h4
    have hla2 : acc.length = 2 := by rw [hla, rangeD_len]
    match acc, hla2 with
    | [x, y], _ =>
      obtain ⟨s1, rfl, h1⟩ := hacc x (by simp)
      obtain ⟨s2, rfl, h2⟩ := hacc y (by simp)
      refine ⟨p, q s1 s2 _ h1 h2 ?_ fun b hb => ?_⟩
      · obtain ⟨a, b, c, e, rest⟩ := ht1
        exact ⟨a, b, c, by rw [mset_ne hpt.symm]; exact e, rest⟩
      · by_cases e : b = p
        · rw [e, mset_same, hp]
        · rw [mset_ne e]
          by_cases e2 : μ b = none
          · rw [e2, h4 b (by rw [mset_ne e]; exact e2)]
          · exact h3 b hb e e2
/-! ### data bent -/
theorem ascii_ok {n b m : Nat} {s : Str} (h1 : s.length ≤ 20 + n) (h2 : ∀ c ∈ s.cps.toList, c < 128) (hb : 1 ≤ b) : Ok n b m (.str s) :=
  ⟨by simp only [fine, Bool.and_eq_true, List.all_eq_true, decide_eq_true_eq]; exact ⟨h2, h1⟩, hb, Nat.zero_le _⟩
theorem int_ok {n b m : Nat} {i : Int} (h : i.natAbs ≤ ib n) (hb : 1 ≤ b) : Ok n b m (.int i) := ⟨by simp only [fine, decide_eq_true_eq]; exact h, hb, Nat.zero_le _⟩
/-- what one step otherwise may be: leaves a little greater, at most twice as many and some, a level deeper -/
def Bent (n : Nat) (d e : PyData) : Prop := fine (n + 1) e = true ∧ sz e ≤ 2 * sz d + 20 ∧ e.depth ≤ d.depth + 1
end
end K1


namespace K1
open PySem PySem.Spec PyProof.Rows L2 RZ DL
local macro_rules | `(tactic| walk_at "dl") => `(tactic| simp [and_assoc, mRet, mAnd, mOr, mCall, mCons, mVar, mCls, mNil, mC, oIsi, oIsi2, mNot, startD, mSeq, mIfS, mTOr, mTAnd, mTNot, mTest, mChain, mNext, oA1, oA2, oIB, oII, oII0, mOp, mUn, mAsg, mgName, mgTup, mgCons_c, mgNil_n, zipAs_l, zipAs_t, oSl_l, oSl_t, oSl_s, oSl_r, mPart, mSl, mIf, wipeD, oSign, oSS, oLen, LenD_s, LenD_l, LenD_t, LenD_m, miZ, miS, miT, miL, miE, miR, oEq, oNe, eqD_i, eqD_b, eqD_s, oInT, oIx, ixD_l, ixD_t, ixD_s, ixD_m, ix0, ix1, ix2, ix3, oAbs, oInt, oMax, oMin, mPar, mPar3, mTup, mLst, mLstM, asD, mExpr, itemsD_l, itemsD_t, oNeg, mgSub, mset_same, isStr, isTup, isLst, isBool, DL.isInt])
section
variable {P : Program} {w : World} {K : PySem.W.Frag} {mg : Str → Option Value} {base : Heap}
theorem atI_mem {α : Type} {l : List α} {i : Int} (h0 : 0 ≤ i) (h1 : i < l.length) : ∃ e, atI l i = some e ∧ e ∈ l := by
  obtain ⟨j, rfl⟩ : ∃ j : Nat, i = (j : Int) := ⟨i.toNat, by omega⟩
  have hj : j < l.length := by omega
  exact ⟨l[j], atI_nat (List.getElem?_eq_getElem hj), List.getElem_mem hj⟩
def d_law_leaf : DOs := fun as μ Q => ∃ (t : Addr) (n : Int) (v : Nat) (d : PyData), as = [.mut t, .dat d] ∧ TapeAt t n μ ∧ n ≤ 900000 ∧ v ≤ 2 ∧ fine v d = true ∧ itemsD d = none ∧ ∀ e μ', Bent v d e → TapeAt t (n + 2) μ' → Fr t μ μ' → Q (.dat e) μ'
theorem leaf_sz {d : PyData} (h : itemsD d = none) : sz d = 1 := by
  cases d <;> simp [itemsD] at h <;> simp [sz]
theorem str_bent {v : Nat} {d : PyData} {s : Str} (h1 : s.length ≤ 20 + (v + 1)) (h2 : ∀ c ∈ s.cps.toList, c < 128) : Bent v d (.str s) :=
  ⟨by simp only [fine, Bool.and_eq_true, List.all_eq_true, decide_eq_true_eq]; exact ⟨h2, h1⟩, by simp only [sz]; omega, by simp only [PyData.depth]; omega⟩
theorem int_ascii (i : Int) : ∀ c ∈ (Str.ofString (toString i)).cps.toList, c < 128 := fun c hc => by
  by_cases h : c < 128
  · exact h
  · exact absurd hc (int_text_free' c ⟨by omega, by omega⟩ i)
theorem lit_ascii {s : String} (h : ((Str.ofString s).cps.toList.all fun c => decide (c < 128)) = true) : ∀ c ∈ (Str.ofString s).cps.toList, c < 128 := fun c hc => by
  have := List.all_eq_true.mp h c hc
  simpa using this
theorem upper_ok {z : Str} (h : ∀ c ∈ z.cps.toList, c < 128) : (Txt.upper z).length ≤ z.length ∧ ∀ c ∈ (Txt.upper z).cps.toList, c < 128 := by
  have e := SX.upper_S (a := z.cps.toList) (by rw [List.all_eq_true]; intro c hc; simpa using h c hc)
  have ez : SX.S z.cps.toList = z := rfl
  rw [ez] at e
  rw [e]
  constructor
  · show ((z.cps.toList.map PyProof.Rows.up1).toArray).size ≤ z.cps.size
    simp
  · intro c hc
    have hc' : c ∈ z.cps.toList.map PyProof.Rows.up1 := by simpa [SX.S] using hc
    obtain ⟨d, hd, rfl⟩ := List.mem_map.mp hc'
    have := h d hd
    unfold PyProof.Rows.up1
    split <;> omega
theorem ok_law_leaf (T : Txt K mg) (p_law_draw : Prm P w K mg base 1 "_law_draw" 2 d_law_draw) (p_law_is_number : Prm P w K mg base 1 "_law_is_number" 1 d_is_number) {f : Addr} {fd : FuncData} (D : DefAt K mg "_law_leaf" s_law_leaf ["tape", "a_thing"] f fd) : Prm P w K mg base 2 "_law_leaf" 2 d_law_leaf := by
  refine prm_of D sc_law_leaf rfl (fun as μ Q ⟨t, n, v, d, e, _⟩ => by rw [e]; rfl) fun cdv A out s H hr hg => ⟨_, _,
(db_cons (ds_setE (i := 2) sc_law_leaf.nd rfl (by first | exact Or.inl rfl | exact Or.inr rfl) (de_call p_law_draw (hr.mono (by omega)) hg (by rfl) (da_cons (de_var (pv 0)) (da_cons de_int da_nil))))
    (db_cons (ds_if (dt_cmp op_eq so_eq (de_var (pv 2)) de_int) (db_one (ds_ret (de_ix (de_lst (da_cons de_non (da_cons de_bl (da_cons de_str (da_cons de_str (da_cons (de_tup da_nil) (da_cons (de_lst da_nil) (da_cons (de_tup (da_cons de_int da_nil)) (da_cons (de_lst (da_cons de_int da_nil)) (da_cons (de_un un_neg so_neg de_int) (da_cons de_bl da_nil))))))))))) (de_call p_law_draw (hr.mono (by omega)) hg (by rfl) (da_cons (de_var (pv 0)) (da_cons de_int da_nil))) (fun _ _ => rfl)))) db_nil)
    (db_cons (ds_if (dt_val (de_call p_law_is_number (hr.mono (by omega)) hg (by rfl) (da_cons (de_var (pv 1)) da_nil))) (db_one (ds_ret (de_ix (de_lst (da_cons (de_op op_add so_II0 (de_var (pv 1)) de_int) (da_cons (de_op op_sub so_II0 (de_var (pv 1)) de_int) (da_cons (de_cmp op_eq so_eq (de_var (pv 1)) de_int) (da_cons (de_callTy call_str_int (so_A1 so_strI) (by rfl) T.n_str (by decide +kernel) (da_cons (de_var (pv 1)) da_nil)) (da_cons de_int (da_cons (de_un un_neg so_neg (de_var (pv 1))) (da_cons (de_op op_add so_II0 (de_var (pv 1)) (de_op op_pow so_II de_int de_int)) da_nil)))))))) (de_op op_sub so_II0 (de_var (pv 2)) de_int) (fun _ _ => rfl)))) db_nil)
    (db_cons (ds_if (dt_val (de_callB call_isi (so_isi k_str) (by rfl) T.n_isinstance (by decide +kernel) (da_cons (de_var (pv 1)) (da_cons (de_cls (pe_bltn (v := .ty "str") (by rfl) T.n_str (by decide +kernel) rfl)) da_nil)))) (db_one (ds_ret (de_ix (de_lst (da_cons (de_op op_add_str so_addS (de_var (pv 1)) de_str) (da_cons (de_slice (de_var (pv 1)) (dp_some de_int) dp_none) (da_cons (de_op op_add_str so_addS de_str (de_var (pv 1))) (da_cons (de_upperE (de_var (pv 1))) (da_cons (de_lst (da_cons (de_var (pv 1)) da_nil)) (da_cons de_non (da_cons de_str da_nil)))))))) (de_op op_sub so_II0 (de_var (pv 2)) de_int) (fun _ _ => rfl)))) db_nil)
    (db_one (ds_ret (de_ix (de_lst (da_cons de_int (da_cons de_int (da_cons de_non (da_cons de_bl (da_cons (de_tup (da_cons de_int (da_cons de_int da_nil))) (da_cons (de_tup da_nil) (da_cons (de_lst da_nil) da_nil)))))))) (de_op op_sub so_II0 (de_var (pv 2)) de_int) (fun _ _ => rfl))))))))
    , fun as μ Q ⟨t, n, v, d, e, ht, hn, hv, hf, hd, q⟩ => ?_⟩
  subst e
  have hsz : sz d = 1 := leaf_sz hd
  walk_at "dl"
  refine ⟨t, 8, n, rfl, ht, by omega, by decide, by decide, fun st μ1 h0 h1 ht1 hf1 => ?_⟩
  have con : ∀ e μ', fine 0 e = true ∧ sz e ≤ 20 ∧ e.depth ≤ 1 → TapeAt t (n + 2) μ' → Fr t μ μ' → Q (.dat e) μ' := fun e μ' ⟨c1, c2, c3⟩ h h' => q e μ' ⟨fine_mono (Nat.zero_le _) c1, by omega, by omega⟩ h h'
  refine ⟨.int st, rfl, ?_⟩
  by_cases hst : st = 0
  · refine .inr ⟨by simp [eqD, hst], by decide, by decide, t, 10, n + 1, rfl, ht1, by omega, by decide, by decide, fun r μ2 h2 h3 ht2 hf2 => ⟨r, rfl, ?_⟩⟩
    obtain ⟨e, he, hm⟩ := atI_mem (l := [PyData.none, PyData.bool true, PyData.str (Str.ofString ""), PyData.str (Str.ofString "a"), PyData.tuple [], PyData.list [], PyData.tuple [PyData.int 0], PyData.list [PyData.int 0], PyData.int (-1), PyData.bool false]) h2 (by simp; omega)
    refine ⟨_, ⟨e, rfl, he⟩, con e μ2 ?_ (ht2.le (by omega)) (hf1.trans hf2)⟩
    simp only [List.mem_cons, List.not_mem_nil, or_false] at hm
    rcases hm with rfl | rfl | rfl | rfl | rfl | rfl | rfl | rfl | rfl | rfl <;> exact ⟨by decide +kernel, by decide +kernel, by decide +kernel⟩
  · refine .inl ⟨by simp [eqD, hst], d, rfl, ?_⟩
    have ht1' : TapeAt t (n + 2) μ1 := ht1.le (by omega)
    cases d with
    | int i =>
      refine .inr ⟨rfl, i, rfl, i, rfl, ?_⟩
      simp only [fine, decide_eq_true_eq] at hf
      have hi12 := int_short (show v ≤ 3 by omega) hf
      have hp : CPow 10 9 := ⟨by decide, by decide, by decide⟩
      have hlog : i.natAbs.log2 < 1920 := Nat.lt_trans (natAbs_log (k := 40) (by decide) (by omega)) (by decide)
      have hib : ib (v + 1) = ib v + 1000000001 := rfl
      have hio : ∀ j : Int, j.natAbs ≤ ib (v + 1) → Bent v (.int i) (.int j) := fun j hj => ⟨by simp only [fine, decide_eq_true_eq]; exact hj, by simp [sz], by simp [PyData.depth]⟩
      have fin : ∀ k : Bool, ∃ x : PyData, atI [PyData.int (i + 1), PyData.int (i - 1), PyData.bool k, PyData.str (toString i), PyData.int 0, PyData.int (-i), PyData.int (i + 1000000000)] (st - 1) = some x ∧ Bent v (.int i) x := fun k => by
        obtain ⟨e, he, hm⟩ := atI_mem (l := [PyData.int (i + 1), PyData.int (i - 1), PyData.bool k, PyData.str (toString i), PyData.int 0, PyData.int (-i), PyData.int (i + 1000000000)]) (i := st - 1) (by omega) (by simp; omega)
        refine ⟨e, he, ?_⟩
        simp only [List.mem_cons, List.not_mem_nil, or_false] at hm
        rcases hm with rfl | rfl | rfl | rfl | rfl | rfl | rfl
        · exact hio _ (by omega)
        · exact hio _ (by omega)
        · exact ⟨by simp [fine], by simp [sz], by simp [PyData.depth]⟩
        · exact str_bent (by rw [PySem.ofString_length]; have := int_text_length_le10 (k := 12) (by decide) hi12; omega) (int_ascii i)
        · exact hio _ (by omega)
        · exact hio _ (by omega)
        · exact hio _ (by omega)
      have l7 : (7 : Nat) ≤ sizeLine := by decide
      by_cases h1 : i = 1
      · obtain ⟨x, hx, hb⟩ := fin true
        exact .inr ⟨by simp [eqD, h1], i, rfl, hlog, i, rfl, hp, i, rfl, _, ⟨_, rfl, rfl⟩, l7, st, rfl, _, ⟨x, rfl, hx⟩, q x μ1 hb ht1' hf1⟩
      · obtain ⟨x, hx, hb⟩ := fin false
        exact .inl ⟨by simp [eqD, h1], i, rfl, hlog, i, rfl, hp, i, rfl, _, ⟨_, rfl, rfl⟩, l7, st, rfl, _, ⟨x, rfl, hx⟩, q x μ1 hb ht1' hf1⟩
    | str z =>
      refine .inl ⟨rfl, ?_⟩
      rw [if_pos rfl]
      simp only [fine, Bool.and_eq_true, List.all_eq_true, decide_eq_true_eq] at hf
      have hs : sizeLine = 16777216 := sizeLine_eq
      have ha : (Str.ofString "a").length = 1 := rfl
      have hA : (Str.ofString "A").length = 1 := rfl
      refine ⟨z, _, rfl, rfl, by omega, ?_⟩
      show z.length ≤ sizeLine ∧ _
      refine ⟨by omega, _, z, rfl, rfl, by omega, z, rfl, by omega, by decide, _, rfl, by show 7 ≤ sizeLine; omega, st, rfl, ?_⟩
      obtain ⟨e, he, hm⟩ := atI_mem (l := [PyData.str (z ++ Str.ofString "a"), PyData.str (cutS z (some 1) none), PyData.str (Str.ofString "A" ++ z), PyData.str (Txt.upper z), PyData.list [PyData.str z], PyData.none, PyData.str (Str.ofString "zzzzzzzzz")]) (i := st - 1) (by omega) (by simp; omega)
      refine ⟨_, ⟨e, rfl, he⟩, q e μ1 ?_ ht1' hf1⟩
      simp only [List.mem_cons, List.not_mem_nil, or_false] at hm
      rcases hm with rfl | rfl | rfl | rfl | rfl | rfl | rfl
      · refine str_bent (by rw [str_append_len]; omega) fun c hc => ?_
        rcases str_append_mem hc with h | h
        · exact hf.1 c h
        · exact lit_ascii (s := "a") (by decide +kernel) c h
      · obtain ⟨c1, c2⟩ := cut_ok (some 1) none (Nat.le_refl z.length) hf.1
        exact str_bent (by omega) c2
      · refine str_bent (by rw [str_append_len]; omega) fun c hc => ?_
        rcases str_append_mem hc with h | h
        · exact lit_ascii (s := "A") (by decide +kernel) c h
        · exact hf.1 c h
      · obtain ⟨c1, c2⟩ := upper_ok hf.1
        exact str_bent (by omega) c2
      · refine ⟨?_, by simp [sz, szAll], by simp [PyData.depth, PyData.depthAll]⟩
        simp only [fine, fineAll, Bool.and_true, Bool.and_eq_true, List.all_eq_true, decide_eq_true_eq]
        exact ⟨hf.1, by omega⟩
      · exact ⟨by simp [fine], by simp [sz], by simp [PyData.depth]⟩
      · refine ⟨fine_mono (Nat.zero_le _) (by decide +kernel : fine 0 (.str (Str.ofString "zzzzzzzzz")) = true), by simp [sz], by simp [PyData.depth]⟩
    | list ds => simp [itemsD] at hd
    | tuple ds => simp [itemsD] at hd
    | _ =>
      refine .inl ⟨rfl, ?_⟩
      rw [if_neg (by simp)]
      obtain ⟨e, he, hm⟩ := atI_mem (l := [PyData.int 0, PyData.int 1, PyData.none, PyData.bool true, PyData.tuple [PyData.int 0, PyData.int 1], PyData.tuple [], PyData.list []]) (i := st - 1) (by omega) (by simp; omega)
      refine ⟨by decide, by decide, st, rfl, _, ⟨e, rfl, he⟩, con e μ1 ?_ ht1' hf1⟩
      simp only [List.mem_cons, List.not_mem_nil, or_false] at hm
      rcases hm with rfl | rfl | rfl | rfl | rfl | rfl | rfl <;> exact ⟨by decide +kernel, by decide +kernel, by decide +kernel⟩
end
end K1


namespace K1
open PySem PySem.Spec PyProof.Rows L2 RZ DL
local macro_rules | `(tactic| walk_at "dl") => `(tactic| simp [and_assoc, mRet, mAnd, mOr, mCall, mCons, mVar, mCls, mNil, mC, oIsi, oIsi2, mNot, startD, mSeq, mIfS, mTOr, mTAnd, mTNot, mTest, mChain, mNext, oA1, oA2, oIB, oII, oII0, mOp, mUn, mAsg, mgName, mgTup, mgCons_c, mgNil_n, zipAs_l, zipAs_t, oSl_l, oSl_t, oSl_s, oSl_r, mPart, mSl, mIf, wipeD, oSign, oSS, oLen, LenD_s, LenD_l, LenD_t, LenD_m, miZ, miS, miT, miL, miE, miR, oEq, oNe, eqD_i, eqD_b, eqD_s, oInT, oIx, ixD_l, ixD_t, ixD_s, ixD_m, ix0, ix1, ix2, ix3, oAbs, oInt, oMax, oMin, mPar, mPar3, mTup, mLst, mLstM, asD, mExpr, itemsD_l, itemsD_t, oNeg, mgSub, mset_same, isStr, isTup, isLst, isBool, DL.isInt])
section
variable {P : Program} {w : World} {K : PySem.W.Frag} {mg : Str → Option Value} {base : Heap}
def d_law_row_bent : DOs := fun as μ Q => ∃ (t : Addr) (n : Int) (v : Nat) (d : PyData) (ds : List PyData), as = [.mut t, .dat d] ∧ TapeAt t n μ ∧ n ≤ 900000 ∧ v ≤ 2 ∧ fine v d = true ∧ itemsD d = some ds ∧ sz d ≤ 5000 ∧ ∀ e μ', Bent v d e → TapeAt t (n + 3) μ' → Fr t μ μ' → Q (.dat e) μ'
theorem cut_front {α : Type} (xs : List α) (i : Nat) : cutL xs none (some (i : Int)) = xs.take i := by
  unfold cutL
  rw [HT.sIx_none, show HT.sIx xs.length xs.length (some (i : Int)) = min i xs.length from HT.sIx_nat xs.length _ i]
  simp [List.take_eq_take_iff]
theorem cut_back {α : Type} (xs : List α) (i : Nat) : cutL xs (some ((i : Int) + 1)) none = xs.drop (i + 1) := by
  unfold cutL
  rw [HT.sIx_none, show HT.sIx xs.length 0 (some ((i : Int) + 1)) = min (i + 1) xs.length from HT.sIx_nat xs.length _ (i + 1)]
  by_cases h : i + 1 ≤ xs.length
  · rw [Nat.min_eq_left h]
    exact List.take_of_length_le (by rw [List.length_drop]; omega)
  · rw [List.drop_of_length_le (by omega), List.drop_of_length_le (by omega)]
    simp
theorem cut_here {α : Type} (xs : List α) (i : Nat) : cutL xs (some (i : Int)) (some ((i : Int) + 1)) = (xs.drop i).take 1 := by
  unfold cutL
  rw [show HT.sIx xs.length 0 (some (i : Int)) = min i xs.length from HT.sIx_nat xs.length _ i, show HT.sIx xs.length xs.length (some ((i : Int) + 1)) = min (i + 1) xs.length from HT.sIx_nat xs.length _ (i + 1)]
  by_cases h : i + 1 ≤ xs.length
  · rw [Nat.min_eq_left h, Nat.min_eq_left (by omega)]
    congr 1
    omega
  · rw [Nat.min_eq_right (by omega : xs.length ≤ i), Nat.min_eq_right (by omega), List.drop_of_length_le (Nat.le_refl _), List.drop_of_length_le (by omega)]
    simp
theorem cut_0 {α : Type} (xs : List α) : cutL xs none (some 1) = xs.take 1 := cut_front xs 1
theorem cut_1 {α : Type} (xs : List α) : cutL xs (some 1) none = xs.drop 1 := cut_back xs 0
/-- parts of a row -/
structure Pc (v m b : Nat) (xs : List PyData) : Prop where
  fn : ∀ x ∈ xs, fine v x = true
  sz : szAll xs ≤ b
  dp : ∀ x ∈ xs, x.depth ≤ m
theorem Pc.add {v m b c : Nat} {xs ys : List PyData} (h : Pc v m b xs) (k : Pc v m c ys) : Pc v m (b + c) (xs ++ ys) :=
  ⟨fun x hx => (List.mem_append.mp hx).elim (h.fn x) (k.fn x), by rw [szAll_append]; exact Nat.add_le_add h.sz k.sz, fun x hx => (List.mem_append.mp hx).elim (h.dp x) (k.dp x)⟩
theorem Pc.len {v m b : Nat} {xs : List PyData} (h : Pc v m b xs) : xs.length ≤ b := Nat.le_trans (szAll_len xs) h.sz
theorem Pc.take {v m b : Nat} {xs : List PyData} (h : Pc v m b xs) (i : Nat) : Pc v m (szAll (xs.take i)) (xs.take i) :=
  ⟨fun x hx => h.fn x (List.mem_of_mem_take hx), Nat.le_refl _, fun x hx => h.dp x (List.mem_of_mem_take hx)⟩
theorem Pc.drop {v m b : Nat} {xs : List PyData} (h : Pc v m b xs) (i : Nat) : Pc v m (szAll (xs.drop i)) (xs.drop i) :=
  ⟨fun x hx => h.fn x (List.mem_of_mem_drop hx), Nat.le_refl _, fun x hx => h.dp x (List.mem_of_mem_drop hx)⟩
theorem fineAll_mem {v : Nat} {xs : List PyData} : fineAll v xs = true → ∀ x ∈ xs, fine v x = true := fineAll_iff.mp
theorem fine_items {v : Nat} {d : PyData} {ds : List PyData} (h : fine v d = true) (e : itemsD d = some ds) : ∀ x ∈ ds, fine v x = true := by
  cases d <;> simp [itemsD] at e <;> subst e <;> exact fineAll_mem (by simpa [fine] using h)
theorem sz_items {d : PyData} {ds : List PyData} (e : itemsD d = some ds) : sz d = 1 + szAll ds := by
  cases d <;> simp [itemsD] at e <;> subst e <;> simp [sz]
theorem depth_items {d : PyData} {ds : List PyData} (e : itemsD d = some ds) : d.depth = PyData.depthAll ds + 1 := by
  cases d <;> simp [itemsD] at e <;> subst e <;> simp [PyData.depth] <;> omega
theorem fine_of_items {v : Nat} {d : PyData} {ds : List PyData} (e : itemsD d = some ds) (h : ∀ x ∈ ds, fine v x = true) : fine v d = true := by
  cases d <;> simp [itemsD] at e <;> subst e <;> simp only [fine] <;> exact fineAll_iff.mpr h
theorem pc_of {v : Nat} {d : PyData} {ds : List PyData} (h : fine v d = true) (e : itemsD d = some ds) : Pc (v + 1) (PyData.depthAll ds + 1) (szAll ds) ds :=
  ⟨fun x hx => fine_mono (Nat.le_succ v) (fine_items h e x hx), Nat.le_refl _, fun x hx => Nat.le_succ_of_le (depthAll_mem hx)⟩
theorem bent_seq {v b : Nat} {d e : PyData} {ds xs : List PyData} (hd : itemsD d = some ds) (he : itemsD e = some xs) (h : Pc (v + 1) (PyData.depthAll ds + 1) b xs) (hb : b ≤ 2 * szAll ds + 20) : Bent v d e := by
  refine ⟨fine_of_items he h.fn, ?_, ?_⟩
  · rw [sz_items hd, sz_items he]
    have := h.sz
    omega
  · rw [depth_items hd, depth_items he]
    exact Nat.succ_le_succ (depthAll_le h.dp)
theorem three_parts (ds : List PyData) (i : Nat) : szAll (ds.take i) + szAll ((ds.drop i).take 1) + szAll (ds.drop (i + 1)) = szAll ds := by
  have h1 : szAll ds = szAll (ds.take i) + szAll (ds.drop i) := by rw [← szAll_append, List.take_append_drop]
  have h2 : szAll (ds.drop i) = szAll ((ds.drop i).take 1) + szAll ((ds.drop i).drop 1) := by rw [← szAll_append, List.take_append_drop]
  rw [List.drop_drop] at h2
  omega
theorem catL {xs ys : List PyData} {μ : Mu} {P : DV} (h : xs.length + ys.length ≤ sizeLine) (p : P (.dat (.list (xs ++ ys))) μ) : oCatU (.dat (.list xs)) (.dat (.list ys)) μ P := .inl ⟨xs, ys, rfl, rfl, h, p⟩
theorem catT {xs ys : List PyData} {μ : Mu} {P : DV} (h : xs.length + ys.length ≤ sizeLine) (p : P (.dat (.tuple (xs ++ ys))) μ) : oCatU (.dat (.tuple xs)) (.dat (.tuple ys)) μ P := .inr ⟨xs, ys, rfl, rfl, h, p⟩
theorem ok_law_row_bent (T : Txt K mg) (p_law_draw : Prm P w K mg base 1 "_law_draw" 2 d_law_draw) {f : Addr} {fd : FuncData} (D : DefAt K mg "_law_row_bent" s_law_row_bent ["tape", "a_thing"] f fd) : Prm P w K mg base 2 "_law_row_bent" 2 d_law_row_bent := by
  refine prm_of D sc_law_row_bent rfl (fun as μ Q ⟨t, n, v, d, ds, e, _⟩ => by rw [e]; rfl) fun cdv A out s H hr hg => ⟨_, _,
(db_cons (ds_parE (i := 2) (j := 3) rfl sc_law_row_bent.nd rfl rfl (by decide) rfl rfl (da_cons (de_call p_law_draw (hr.mono (by omega)) hg (by rfl) (da_cons (de_var (pv 0)) (da_cons (de_op op_add so_II0 (de_callB call_len (so_A1 so_len) (by rfl) T.n_len (by decide +kernel) (da_cons (de_var (pv 1)) da_nil)) de_int) da_nil))) (da_cons (de_call p_law_draw (hr.mono (by omega)) hg (by rfl) (da_cons (de_var (pv 0)) (da_cons de_int da_nil))) da_nil)) rfl)
    (db_cons (ds_parE (i := 4) (j := 5) rfl sc_law_row_bent.nd rfl rfl (by decide) rfl rfl (da_cons (de_slice (de_var (pv 1)) dp_none (dp_some (de_var (pv 2)))) (da_cons (de_slice (de_var (pv 1)) (dp_some (de_var (pv 2))) (dp_some (de_op op_add so_II0 (de_var (pv 2)) de_int))) da_nil)) rfl)
    (db_cons (ds_setE (i := 6) sc_law_row_bent.nd rfl (by first | exact Or.inl rfl | exact Or.inr rfl) (de_slice (de_var (pv 1)) (dp_some (de_op op_add so_II0 (de_var (pv 2)) de_int)) dp_none))
    (db_cons (ds_if (dt_cmp op_eq so_eq (de_var (pv 3)) de_int) (db_one (ds_ret (de_if (dt_val (de_callB call_isi (so_isi k_tup) (by rfl) T.n_isinstance (by decide +kernel) (da_cons (de_var (pv 1)) (da_cons (de_cls (pe_bltn (v := .ty "tuple") (by rfl) T.n_tuple (by decide +kernel) rfl)) da_nil)))) (de_callTy call_list_of (so_A1 so_list) (by rfl) T.n_list (by decide +kernel) (da_cons (de_var (pv 1)) da_nil)) (de_callTy call_tuple_of (so_A1 so_tuple) (by rfl) T.n_tuple (by decide +kernel) (da_cons (de_var (pv 1)) da_nil))))) db_nil)
    (db_cons (ds_if (dt_cmp op_eq so_eq (de_var (pv 3)) de_int) (db_cons (ds_setE (i := 7) sc_law_row_bent.nd rfl (by first | exact Or.inl rfl | exact Or.inr rfl) (de_ix (de_lst (da_cons de_int (da_cons de_int (da_cons (de_un un_neg so_neg de_int) (da_cons de_non (da_cons (de_tup (da_cons de_int (da_cons de_int da_nil))) (da_cons (de_lst da_nil) (da_cons (de_tup (da_cons de_int (da_cons de_int (da_cons de_int da_nil)))) da_nil)))))))) (de_call p_law_draw (hr.mono (by omega)) hg (by rfl) (da_cons (de_var (pv 0)) (da_cons de_int da_nil))) (fun _ _ => rfl)))
    (db_cons (ds_setE (i := 8) sc_law_row_bent.nd rfl (by first | exact Or.inl rfl | exact Or.inr rfl) (de_if (dt_val (de_callB call_isi (so_isi k_tup) (by rfl) T.n_isinstance (by decide +kernel) (da_cons (de_var (pv 1)) (da_cons (de_cls (pe_bltn (v := .ty "tuple") (by rfl) T.n_tuple (by decide +kernel) rfl)) da_nil)))) (de_tup (da_cons (de_var (pv 7)) da_nil)) (de_lst (da_cons (de_var (pv 7)) da_nil))))
    (db_one (ds_ret (de_op op_catU so_catU (de_op op_catU so_catU (de_op op_catU so_catU (de_var (pv 4)) (de_var (pv 8))) (de_var (pv 5))) (de_var (pv 6))))))) db_nil)
    (db_cons (ds_if (dt_cmp op_eq so_eq (de_var (pv 3)) de_int) (db_one (ds_ret (de_op op_catU so_catU (de_op op_catU so_catU (de_op op_catU so_catU (de_var (pv 4)) (de_var (pv 5))) (de_var (pv 5))) (de_var (pv 6))))) db_nil)
    (db_one (ds_ret (de_ix (de_lst (da_cons (de_op op_catU so_catU (de_var (pv 4)) (de_var (pv 6))) (da_cons (de_var (pv 4)) (da_cons (de_op op_catU so_catU (de_op op_catU so_catU (de_op op_catU so_catU (de_var (pv 4)) (de_slice (de_var (pv 6)) dp_none (dp_some de_int))) (de_var (pv 5))) (de_slice (de_var (pv 6)) (dp_some de_int) dp_none)) (da_cons (de_var (pv 4)) da_nil))))) (de_var (pv 3)) (fun _ _ => rfl))))))))))
    , fun as μ Q ⟨t, n, v, d, ds, e, ht, hn, hv, hf, hd, hz, q⟩ => ?_⟩
  subst e
  cases d with
  | list es =>
    have hd' : es = ds := by simpa [itemsD] using hd
    subst hd'
    have pc := pc_of hf (rfl : itemsD (.list es) = some es)
    have hz' : szAll es ≤ 5000 := by have := sz_items (rfl : itemsD (.list es) = some es); omega
    have hln := szAll_len es
    have hsl : sizeLine = 16777216 := sizeLine_eq
    walk_at "dl"
    refine ⟨t, _, n, rfl, ht, by omega, by omega, by omega, fun r μ1 h0 h1 ht1 hf1 => ⟨t, 6, n + 1, rfl, ht1, by omega, by decide, by decide, fun st μ2 h2 h3 ht2 hf2 => ?_⟩⟩
    obtain ⟨i, rfl⟩ : ∃ i : Nat, r = (i : Int) := ⟨r.toNat, by omega⟩
    refine ⟨i, rfl, i, rfl, i, rfl, i, rfl, .int st, rfl, ?_⟩
    simp only [cut_front, cut_back, cut_here, cut_0, cut_1]
    have pf := pc.take i
    have ph := (pc.drop i).take 1
    have pb := pc.drop (i + 1)
    have th := three_parts es i
    have hlf := pf.len
    have hlh := ph.len
    have hlb := pb.len
    have ht2' : TapeAt t (n + 3) μ2 := ht2.le (by omega)
    by_cases h5 : st = 5
    · exact .inr ⟨by simp [eqD, h5], .inl ⟨_, es, rfl, rfl, q _ μ2 (bent_seq rfl rfl pc (by omega)) ht2' (hf1.trans hf2)⟩⟩
    · refine .inl ⟨by simp [eqD, h5], .int st, rfl, ?_⟩
      by_cases h4 : st = 4
      · refine .inr ⟨by simp [eqD, h4], by decide, by decide, by decide, t, 7, n + 2, rfl, ht2.le (by omega), by omega, by decide, by decide, fun k μ3 h6 h7 ht3 hf3 => ?_⟩
        obtain ⟨e, he, hm⟩ := atI_mem (l := [PyData.int 0, PyData.int 1, PyData.int (-1), PyData.none, PyData.tuple [PyData.int 0, PyData.int 1], PyData.list [], PyData.tuple [PyData.int 0, PyData.int 0, PyData.int 0]]) h6 (by simp; omega)
        have pe : Pc (v + 1) (PyData.depthAll es + 1) 4 [e] := by
          have : fine 0 e = true ∧ sz e ≤ 4 ∧ e.depth ≤ 1 := by
            simp only [List.mem_cons, List.not_mem_nil, or_false] at hm
            rcases hm with rfl | rfl | rfl | rfl | rfl | rfl | rfl <;> exact ⟨by decide +kernel, by decide +kernel, by decide +kernel⟩
          exact ⟨fun x hx => by rw [List.mem_singleton.mp hx]; exact fine_mono (Nat.zero_le _) this.1, by simp [szAll]; exact this.2.1, fun x hx => by rw [List.mem_singleton.mp hx]; omega⟩
        refine ⟨k, rfl, .dat e, ⟨e, rfl, he⟩, [e], rfl, by show 1 ≤ sizeLine; omega, ?_⟩
        have p1 := pf.add pe
        have p2 := p1.add ph
        have p3 := p2.add pb
        have l1 := p1.len
        have l2 := p2.len
        have le : [e].length = 1 := rfl
        exact catL (by omega) (catL (by omega) (catL (by omega) (q _ μ3 (bent_seq rfl rfl p3 (by omega)) (ht3.le (by omega)) (hf1.trans (hf2.trans hf3)))))
      · refine .inl ⟨by simp [eqD, h4], .int st, rfl, ?_⟩
        by_cases h1 : st = 1
        · refine .inr ⟨by simp [eqD, h1], ?_⟩
          have p1 := pf.add ph
          have p2 := p1.add ph
          have p3 := p2.add pb
          have l1 := p1.len
          have l2 := p2.len
          exact catL (by omega) (catL (by omega) (catL (by omega) (q _ μ2 (bent_seq rfl rfl p3 (by omega)) ht2' (hf1.trans hf2))))
        · refine .inl ⟨by simp [eqD, h1], ?_⟩
          have q1 := (pc.drop (i + 1)).take 1
          have q2 := (pc.drop (i + 1)).drop 1
          have p0 := pf.add pb
          have p1 := pf.add q1
          have p2 := p1.add ph
          have p3 := p2.add q2
          have l1 := p1.len
          have l2 := p2.len
          have lq1 := q1.len
          have lq2 := q2.len
          have th2 : szAll ((es.drop (i + 1)).take 1) + szAll ((es.drop (i + 1)).drop 1) = szAll (es.drop (i + 1)) := by rw [← szAll_append, List.take_append_drop]
          refine catL (by omega) (catL (by omega) (catL (by omega) (catL (by omega) ⟨_, rfl, by show 4 ≤ sizeLine; omega, st, rfl, ?_⟩)))
          have fin : ∀ xs b, Pc (v + 1) (PyData.depthAll es + 1) b xs → b ≤ 2 * szAll es + 20 → Q (.dat (.list xs)) μ2 := fun xs b hx hb => q _ μ2 (bent_seq rfl rfl hx hb) ht2' (hf1.trans hf2)
          obtain rfl | rfl | rfl : st = 0 ∨ st = 2 ∨ st = 3 := by omega
          · exact ⟨_, ⟨_, rfl, ix0 _ _⟩, fin _ _ p0 (by omega)⟩
          · exact ⟨_, ⟨_, rfl, ix2 _ _ _ _⟩, fin _ _ p3 (by omega)⟩
          · exact ⟨_, ⟨_, rfl, ix3 _ _ _ _ _⟩, fin _ _ pf (by omega)⟩
  | tuple es =>
    have hd' : es = ds := by simpa [itemsD] using hd
    subst hd'
    have pc := pc_of hf (rfl : itemsD (.tuple es) = some es)
    have hz' : szAll es ≤ 5000 := by have := sz_items (rfl : itemsD (.tuple es) = some es); omega
    have hln := szAll_len es
    have hsl : sizeLine = 16777216 := sizeLine_eq
    walk_at "dl"
    refine ⟨t, _, n, rfl, ht, by omega, by omega, by omega, fun r μ1 h0 h1 ht1 hf1 => ⟨t, 6, n + 1, rfl, ht1, by omega, by decide, by decide, fun st μ2 h2 h3 ht2 hf2 => ?_⟩⟩
    obtain ⟨i, rfl⟩ : ∃ i : Nat, r = (i : Int) := ⟨r.toNat, by omega⟩
    refine ⟨i, rfl, i, rfl, i, rfl, i, rfl, .int st, rfl, ?_⟩
    simp only [cut_front, cut_back, cut_here, cut_0, cut_1]
    have pf := pc.take i
    have ph := (pc.drop i).take 1
    have pb := pc.drop (i + 1)
    have th := three_parts es i
    have hlf := pf.len
    have hlh := ph.len
    have hlb := pb.len
    have ht2' : TapeAt t (n + 3) μ2 := ht2.le (by omega)
    by_cases h5 : st = 5
    · exact .inr ⟨by simp [eqD, h5], ⟨_, es, rfl, rfl, q _ μ2 (bent_seq rfl rfl pc (by omega)) ht2' (hf1.trans hf2)⟩⟩
    · refine .inl ⟨by simp [eqD, h5], .int st, rfl, ?_⟩
      by_cases h4 : st = 4
      · refine .inr ⟨by simp [eqD, h4], by decide, by decide, by decide, t, 7, n + 2, rfl, ht2.le (by omega), by omega, by decide, by decide, fun k μ3 h6 h7 ht3 hf3 => ?_⟩
        obtain ⟨e, he, hm⟩ := atI_mem (l := [PyData.int 0, PyData.int 1, PyData.int (-1), PyData.none, PyData.tuple [PyData.int 0, PyData.int 1], PyData.list [], PyData.tuple [PyData.int 0, PyData.int 0, PyData.int 0]]) h6 (by simp; omega)
        have pe : Pc (v + 1) (PyData.depthAll es + 1) 4 [e] := by
          have : fine 0 e = true ∧ sz e ≤ 4 ∧ e.depth ≤ 1 := by
            simp only [List.mem_cons, List.not_mem_nil, or_false] at hm
            rcases hm with rfl | rfl | rfl | rfl | rfl | rfl | rfl <;> exact ⟨by decide +kernel, by decide +kernel, by decide +kernel⟩
          exact ⟨fun x hx => by rw [List.mem_singleton.mp hx]; exact fine_mono (Nat.zero_le _) this.1, by simp [szAll]; exact this.2.1, fun x hx => by rw [List.mem_singleton.mp hx]; omega⟩
        refine ⟨k, rfl, .dat e, ⟨e, rfl, he⟩, [e], rfl, by show 1 ≤ sizeLine; omega, ?_⟩
        have p1 := pf.add pe
        have p2 := p1.add ph
        have p3 := p2.add pb
        have l1 := p1.len
        have l2 := p2.len
        have le : [e].length = 1 := rfl
        exact catT (by omega) (catT (by omega) (catT (by omega) (q _ μ3 (bent_seq rfl rfl p3 (by omega)) (ht3.le (by omega)) (hf1.trans (hf2.trans hf3)))))
      · refine .inl ⟨by simp [eqD, h4], .int st, rfl, ?_⟩
        by_cases h1 : st = 1
        · refine .inr ⟨by simp [eqD, h1], ?_⟩
          have p1 := pf.add ph
          have p2 := p1.add ph
          have p3 := p2.add pb
          have l1 := p1.len
          have l2 := p2.len
          exact catT (by omega) (catT (by omega) (catT (by omega) (q _ μ2 (bent_seq rfl rfl p3 (by omega)) ht2' (hf1.trans hf2))))
        · refine .inl ⟨by simp [eqD, h1], ?_⟩
          have q1 := (pc.drop (i + 1)).take 1
          have q2 := (pc.drop (i + 1)).drop 1
          have p0 := pf.add pb
          have p1 := pf.add q1
          have p2 := p1.add ph
          have p3 := p2.add q2
          have l1 := p1.len
          have l2 := p2.len
          have lq1 := q1.len
          have lq2 := q2.len
          have th2 : szAll ((es.drop (i + 1)).take 1) + szAll ((es.drop (i + 1)).drop 1) = szAll (es.drop (i + 1)) := by rw [← szAll_append, List.take_append_drop]
          refine catT (by omega) (catT (by omega) (catT (by omega) (catT (by omega) ⟨_, rfl, by show 4 ≤ sizeLine; omega, st, rfl, ?_⟩)))
          have fin : ∀ xs b, Pc (v + 1) (PyData.depthAll es + 1) b xs → b ≤ 2 * szAll es + 20 → Q (.dat (.tuple xs)) μ2 := fun xs b hx hb => q _ μ2 (bent_seq rfl rfl hx hb) ht2' (hf1.trans hf2)
          obtain rfl | rfl | rfl : st = 0 ∨ st = 2 ∨ st = 3 := by omega
          · exact ⟨_, ⟨_, rfl, ix0 _ _⟩, fin _ _ p0 (by omega)⟩
          · exact ⟨_, ⟨_, rfl, ix2 _ _ _ _⟩, fin _ _ p3 (by omega)⟩
          · exact ⟨_, ⟨_, rfl, ix3 _ _ _ _ _⟩, fin _ _ pf (by omega)⟩
  | _ => simp [itemsD] at hd
end
end K1


namespace K1
open PySem PySem.Spec PyProof.Rows L2 RZ DL
local macro_rules | `(tactic| walk_at "dl") => `(tactic| simp [and_assoc, mRet, mAnd, mOr, mCall, mCons, mVar, mCls, mNil, mC, oIsi, oIsi2, mNot, startD, mSeq, mIfS, mTOr, mTAnd, mTNot, mTest, mChain, mNext, oA1, oA2, oIB, oII, oII0, mOp, mUn, mAsg, mgName, mgTup, mgCons_c, mgNil_n, zipAs_l, zipAs_t, oSl_l, oSl_t, oSl_s, oSl_r, mPart, mSl, mIf, wipeD, oSign, oSS, oLen, LenD_s, LenD_l, LenD_t, LenD_m, miZ, miS, miT, miL, miE, miR, oEq, oNe, eqD_i, eqD_b, eqD_s, oInT, oIx, ixD_l, ixD_t, ixD_s, ixD_m, ix0, ix1, ix2, ix3, oAbs, oInt, oMax, oMin, mPar, mPar3, mTup, mLst, mLstM, asD, mExpr, itemsD_l, itemsD_t, oNeg, mgSub, mset_same, isStr, isTup, isLst, isBool, DL.isInt])
section
variable {P : Program} {w : World} {K : PySem.W.Frag} {mg : Str → Option Value} {base : Heap}
def d_law_bent (k : Nat) : DOs := fun as μ Q => ∃ (t : Addr) (n : Int) (v : Nat) (d : PyData), as = [.mut t, .dat d, .dat (.int (k : Nat))] ∧ TapeAt t n μ ∧ n + 4 * (k + 1 : Nat) ≤ 800000 ∧ v ≤ 2 ∧ k ≤ 4 ∧ fine v d = true ∧ sz d ≤ 5000 ∧ ∀ e μ', Bent v d e → TapeAt t (n + 4 * (k + 1 : Nat)) μ' → Fr t μ μ' → Q (.dat e) μ'
theorem catU_mono {a b : AV} {μ : Mu} {P R : DV} (h : oCatU a b μ P) (k : ∀ x μ', P x μ' → R x μ') : oCatU a b μ R := by
  rcases h with ⟨xs, ys, e1, e2, hz, p⟩ | ⟨xs, ys, e1, e2, hz, p⟩
  · exact .inl ⟨xs, ys, e1, e2, hz, k _ _ p⟩
  · exact .inr ⟨xs, ys, e1, e2, hz, k _ _ p⟩
theorem step_bent (T : Txt K mg) (k : Nat) (dp : DOs) (hdp : k = 0 ∨ ∃ j, k = j + 1 ∧ dp = d_law_bent j) (p_law_bent : Prm P w K mg base (k + 2) "_law_bent" 3 dp) (p_law_draw : Prm P w K mg base 1 "_law_draw" 2 d_law_draw) (p_law_leaf : Prm P w K mg base 2 "_law_leaf" 2 d_law_leaf) (p_law_row_bent : Prm P w K mg base 2 "_law_row_bent" 2 d_law_row_bent) {f : Addr} {fd : FuncData} (D : DefAt K mg "_law_bent" s_law_bent ["tape", "a_thing", "deep"] f fd) : Prm P w K mg base (k + 2 + 1) "_law_bent" 3 (d_law_bent k) := by
  refine prm_of D sc_law_bent rfl (fun as μ Q ⟨t, n, v, d, e, _⟩ => by rw [e]; rfl) fun cdv A out s H hr hg => ⟨_, _,
(db_cons (ds_if (dt_not (dt_val (de_isi2 (e := .Name "a_thing" { line := 0, col := 0, endLine := 0, endCol := 0 }) (de_var (pv 1)) k_tup k_lst (pe_callB call_isiT (by rfl) T.n_isinstance (by decide +kernel) (pa_cons (DE.pe (de_var (pv 1))) (pa_cons (pe_tup (pa_cons (pe_bltn (v := .ty "tuple") (by rfl) T.n_tuple (by decide +kernel) rfl) (pa_cons (pe_bltn (v := .ty "list") (by rfl) T.n_list (by decide +kernel) rfl) pa_nil))) pa_nil)))))) (db_one (ds_ret (de_call p_law_leaf (hr.mono (by omega)) hg (by rfl) (da_cons (de_var (pv 0)) (da_cons (de_var (pv 1)) da_nil))))) db_nil)
    (db_cons (ds_if (DW.dt (dw_or (dt_cmp op_eq so_eq (de_callB call_len (so_A1 so_len) (by rfl) T.n_len (by decide +kernel) (da_cons (de_var (pv 1)) da_nil)) de_int) (dw_or (dt_cmp op_eq so_eq (de_var (pv 2)) de_int) (dw_or1 (dt_cmp op_eq so_eq (de_call p_law_draw (hr.mono (by omega)) hg (by rfl) (da_cons (de_var (pv 0)) (da_cons de_int da_nil))) de_int))))) (db_one (ds_ret (de_call p_law_row_bent (hr.mono (by omega)) hg (by rfl) (da_cons (de_var (pv 0)) (da_cons (de_var (pv 1)) da_nil))))) db_nil)
    (db_cons (ds_setE (i := 3) sc_law_bent.nd rfl (by first | exact Or.inl rfl | exact Or.inr rfl) (de_if (dt_cmp op_eq so_eq (de_call p_law_draw (hr.mono (by omega)) hg (by rfl) (da_cons (de_var (pv 0)) (da_cons de_int da_nil))) de_int) (de_op op_sub so_II0 (de_callB call_len (so_A1 so_len) (by rfl) T.n_len (by decide +kernel) (da_cons (de_var (pv 1)) da_nil)) de_int) (de_call p_law_draw (hr.mono (by omega)) hg (by rfl) (da_cons (de_var (pv 0)) (da_cons (de_callB call_len (so_A1 so_len) (by rfl) T.n_len (by decide +kernel) (da_cons (de_var (pv 1)) da_nil)) da_nil)))))
    (db_cons (ds_setE (i := 4) sc_law_bent.nd rfl (by first | exact Or.inl rfl | exact Or.inr rfl) (de_call p_law_bent (hr.mono (by omega)) hg (by rfl) (da_cons (de_var (pv 0)) (da_cons (de_ix (de_var (pv 1)) (de_var (pv 3)) (fun _ _ => rfl)) (da_cons (de_op op_sub so_II0 (de_var (pv 2)) de_int) da_nil)))))
    (db_one (ds_ret (de_op op_catU so_catU (de_op op_catU so_catU (de_slice (de_var (pv 1)) dp_none (dp_some (de_var (pv 3)))) (de_if (dt_val (de_callB call_isi (so_isi k_tup) (by rfl) T.n_isinstance (by decide +kernel) (da_cons (de_var (pv 1)) (da_cons (de_cls (pe_bltn (v := .ty "tuple") (by rfl) T.n_tuple (by decide +kernel) rfl)) da_nil)))) (de_tup (da_cons (de_var (pv 4)) da_nil)) (de_lst (da_cons (de_var (pv 4)) da_nil)))) (de_slice (de_var (pv 1)) (dp_some (de_op op_add so_II0 (de_var (pv 3)) de_int)) dp_none))))))))
    , fun as μ Q ⟨t, n, v, d, e, ht, hn, hv, hk4, hf, hz, q⟩ => ?_⟩
  subst e
  cases d with
  | list es =>
    have pc := pc_of hf (rfl : itemsD (.list es) = some es)
    have hz' : szAll es ≤ 5000 := by have := sz_items (rfl : itemsD (.list es) = some es); omega
    have hln := szAll_len es
    have hsl : sizeLine = 16777216 := sizeLine_eq
    have row : ∀ μ1 n', TapeAt t n' μ1 → n' ≤ n + 1 → Fr t μ μ1 → d_law_row_bent [AV.mut t, AV.dat (.list es)] μ1 Q := fun μ1 n' ht1 hn1 hf1 => ⟨t, n', v, _, es, rfl, ht1, by omega, hv, hf, rfl, hz, fun e μ' hb ht2 hf2 => q e μ' hb (ht2.le (by omega)) (hf1.trans hf2)⟩
    have go : ∀ (i : Nat) (hi : i < es.length) (n' : Int) (μ2 : Mu) (R : DV), k ≠ 0 → TapeAt t n' μ2 → n' ≤ n + 3 → Fr t μ μ2 → (∀ e1 μ3, Bent v es[i] e1 → TapeAt t (n + 4 * (k + 1 : Nat)) μ3 → Fr t μ μ3 → R (.dat e1) μ3) → dp [.mut t, .dat es[i], .dat (.int ((k : Nat) - 1))] μ2 R := fun i hi n' μ2 R hk0 ht2 hn2 hf2 r => by
      rcases hdp with h | ⟨j, rfl, rfl⟩
      · exact absurd h hk0
      · have hx : es[i] ∈ es := List.getElem_mem hi
        have hsx := szAll_mem hx
        exact ⟨t, n', v, es[i], by simp, ht2, by omega, hv, by omega, fine_items hf rfl _ hx, by omega, fun e μ' hb ht3 hf3 => r e μ' hb (ht3.le (by omega)) (hf2.trans hf3)⟩
    have fin : ∀ (i : Nat) (hi : i < es.length) (e1 : PyData) (μ3 : Mu), Bent v es[i] e1 → TapeAt t (n + 4 * (k + 1 : Nat)) μ3 → Fr t μ μ3 → oCatU (.dat (.list (es.take i))) (.dat (.list [e1])) μ3 fun x μ4 => oCatU x (.dat (.list (es.drop (i + 1)))) μ4 Q := fun i hi e1 μ3 hb ht3 hf3 => by
      have hx : es[i] ∈ es := List.getElem_mem hi
      have th := three_parts es i
      have h1 : (es.drop i).take 1 = [es[i]] := by rw [List.drop_eq_getElem_cons hi]; rfl
      rw [h1] at th
      simp only [szAll, Nat.add_zero] at th
      have hdx := depthAll_mem hx
      have pe : Pc (v + 1) (PyData.depthAll es + 1) (2 * sz es[i] + 20) [e1] := ⟨fun x hx => by rw [List.mem_singleton.mp hx]; exact hb.1, by simp only [szAll, Nat.add_zero]; exact hb.2.1, fun x hx => by rw [List.mem_singleton.mp hx]; have := hb.2.2; omega⟩
      have p1 := (pc.take i).add pe
      have p2 := p1.add (pc.drop (i + 1))
      have l0 := (pc.take i).len
      have l1 := p1.len
      have l2 := (pc.drop (i + 1)).len
      have le : [e1].length = 1 := rfl
      exact catL (by omega) (catL (by omega) (q _ μ3 (bent_seq rfl rfl p2 (by omega)) ht3 hf3))
    walk_at "dl"
    by_cases he : es = []
    · exact .inr ⟨he, row μ n ht (by omega) (Fr.refl _ _)⟩
    · have hl0 : es.length ≠ 0 := fun h => he (List.length_eq_zero_iff.mp h)
      refine .inl ⟨he, ?_⟩
      by_cases hk : k = 0
      · exact .inr ⟨hk, row μ n ht (by omega) (Fr.refl _ _)⟩
      · refine .inl ⟨hk, t, 5, n, rfl, ht, by omega, by decide, by decide, fun r μ1 h0 h1 ht1 hf1 => ⟨.int r, rfl, ?_⟩⟩
        by_cases hr0 : r = 0
        · exact .inr ⟨by simp [eqD, hr0], row μ1 (n + 1) ht1 (by omega) hf1⟩
        · refine .inl ⟨by simp [eqD, hr0], t, 2, n + 1, rfl, ht1, by omega, by decide, by decide, fun u μ2 h2 h3 ht2 hf2 => ⟨.int u, rfl, ?_⟩⟩
          by_cases hu0 : u = 0
          · obtain ⟨i, hi⟩ : ∃ i : Nat, es.length = i + 1 := ⟨es.length - 1, by omega⟩
            have hi' : i < es.length := by omega
            have e1 : ((es.length : Int) - 1) = (i : Int) := by omega
            have e2 : (es.length : Int) = (i : Int) + 1 := by omega
            refine .inr ⟨by simp [eqD, hu0], .dat es[i], ⟨_, rfl, by rw [e1]; exact atI_nat (List.getElem?_eq_getElem hi')⟩, go i hi' (n + 2) μ2 _ hk (ht2.le (by omega)) (by omega) (hf1.trans hf2) fun e1' μ3 hb ht3 hf3 => ⟨[e1'], rfl, by show 1 ≤ sizeLine; omega, ?_⟩⟩
            rw [e1, e2, cut_front, cut_back]
            exact fin i hi' e1' μ3 hb ht3 hf3
          · refine .inl ⟨by simp [eqD, hu0], t, _, n + 2, rfl, ht2.le (by omega), by omega, by omega, by omega, fun y μ3 h4 h5 ht3 hf3 => ?_⟩
            obtain ⟨i, rfl⟩ : ∃ i : Nat, y = (i : Int) := ⟨y.toNat, by omega⟩
            have hi' : i < es.length := by omega
            refine ⟨i, rfl, .dat es[i], ⟨_, rfl, atI_nat (List.getElem?_eq_getElem hi')⟩, go i hi' (n + 3) μ3 _ hk (ht3.le (by omega)) (by omega) (hf1.trans (hf2.trans hf3)) fun e1' μ4 hb ht4 hf4 => ⟨i, rfl, [e1'], rfl, by show 1 ≤ sizeLine; omega, ?_⟩⟩
            simp only [cut_front, cut_back]
            have := fin i hi' e1' μ4 hb ht4 hf4
            exact catU_mono this fun x μ5 h => ⟨i, rfl, by rw [cut_back]; exact h⟩
  | tuple es =>
    have pc := pc_of hf (rfl : itemsD (.tuple es) = some es)
    have hz' : szAll es ≤ 5000 := by have := sz_items (rfl : itemsD (.tuple es) = some es); omega
    have hln := szAll_len es
    have hsl : sizeLine = 16777216 := sizeLine_eq
    have row : ∀ μ1 n', TapeAt t n' μ1 → n' ≤ n + 1 → Fr t μ μ1 → d_law_row_bent [AV.mut t, AV.dat (.tuple es)] μ1 Q := fun μ1 n' ht1 hn1 hf1 => ⟨t, n', v, _, es, rfl, ht1, by omega, hv, hf, rfl, hz, fun e μ' hb ht2 hf2 => q e μ' hb (ht2.le (by omega)) (hf1.trans hf2)⟩
    have go : ∀ (i : Nat) (hi : i < es.length) (n' : Int) (μ2 : Mu) (R : DV), k ≠ 0 → TapeAt t n' μ2 → n' ≤ n + 3 → Fr t μ μ2 → (∀ e1 μ3, Bent v es[i] e1 → TapeAt t (n + 4 * (k + 1 : Nat)) μ3 → Fr t μ μ3 → R (.dat e1) μ3) → dp [.mut t, .dat es[i], .dat (.int ((k : Nat) - 1))] μ2 R := fun i hi n' μ2 R hk0 ht2 hn2 hf2 r => by
      rcases hdp with h | ⟨j, rfl, rfl⟩
      · exact absurd h hk0
      · have hx : es[i] ∈ es := List.getElem_mem hi
        have hsx := szAll_mem hx
        exact ⟨t, n', v, es[i], by simp, ht2, by omega, hv, by omega, fine_items hf rfl _ hx, by omega, fun e μ' hb ht3 hf3 => r e μ' hb (ht3.le (by omega)) (hf2.trans hf3)⟩
    have fin : ∀ (i : Nat) (hi : i < es.length) (e1 : PyData) (μ3 : Mu), Bent v es[i] e1 → TapeAt t (n + 4 * (k + 1 : Nat)) μ3 → Fr t μ μ3 → oCatU (.dat (.tuple (es.take i))) (.dat (.tuple [e1])) μ3 fun x μ4 => oCatU x (.dat (.tuple (es.drop (i + 1)))) μ4 Q := fun i hi e1 μ3 hb ht3 hf3 => by
      have hx : es[i] ∈ es := List.getElem_mem hi
      have th := three_parts es i
      have h1 : (es.drop i).take 1 = [es[i]] := by rw [List.drop_eq_getElem_cons hi]; rfl
      rw [h1] at th
      simp only [szAll, Nat.add_zero] at th
      have hdx := depthAll_mem hx
      have pe : Pc (v + 1) (PyData.depthAll es + 1) (2 * sz es[i] + 20) [e1] := ⟨fun x hx => by rw [List.mem_singleton.mp hx]; exact hb.1, by simp only [szAll, Nat.add_zero]; exact hb.2.1, fun x hx => by rw [List.mem_singleton.mp hx]; have := hb.2.2; omega⟩
      have p1 := (pc.take i).add pe
      have p2 := p1.add (pc.drop (i + 1))
      have l0 := (pc.take i).len
      have l1 := p1.len
      have l2 := (pc.drop (i + 1)).len
      have le : [e1].length = 1 := rfl
      exact catT (by omega) (catT (by omega) (q _ μ3 (bent_seq rfl rfl p2 (by omega)) ht3 hf3))
    walk_at "dl"
    by_cases he : es = []
    · exact .inr ⟨he, row μ n ht (by omega) (Fr.refl _ _)⟩
    · have hl0 : es.length ≠ 0 := fun h => he (List.length_eq_zero_iff.mp h)
      refine .inl ⟨he, ?_⟩
      by_cases hk : k = 0
      · exact .inr ⟨hk, row μ n ht (by omega) (Fr.refl _ _)⟩
      · refine .inl ⟨hk, t, 5, n, rfl, ht, by omega, by decide, by decide, fun r μ1 h0 h1 ht1 hf1 => ⟨.int r, rfl, ?_⟩⟩
        by_cases hr0 : r = 0
        · exact .inr ⟨by simp [eqD, hr0], row μ1 (n + 1) ht1 (by omega) hf1⟩
        · refine .inl ⟨by simp [eqD, hr0], t, 2, n + 1, rfl, ht1, by omega, by decide, by decide, fun u μ2 h2 h3 ht2 hf2 => ⟨.int u, rfl, ?_⟩⟩
          by_cases hu0 : u = 0
          · obtain ⟨i, hi⟩ : ∃ i : Nat, es.length = i + 1 := ⟨es.length - 1, by omega⟩
            have hi' : i < es.length := by omega
            have e1 : ((es.length : Int) - 1) = (i : Int) := by omega
            have e2 : (es.length : Int) = (i : Int) + 1 := by omega
            refine .inr ⟨by simp [eqD, hu0], .dat es[i], ⟨_, rfl, by rw [e1]; exact atI_nat (List.getElem?_eq_getElem hi')⟩, go i hi' (n + 2) μ2 _ hk (ht2.le (by omega)) (by omega) (hf1.trans hf2) fun e1' μ3 hb ht3 hf3 => ⟨[e1'], rfl, by show 1 ≤ sizeLine; omega, ?_⟩⟩
            rw [e1, e2, cut_front, cut_back]
            exact fin i hi' e1' μ3 hb ht3 hf3
          · refine .inl ⟨by simp [eqD, hu0], t, _, n + 2, rfl, ht2.le (by omega), by omega, by omega, by omega, fun y μ3 h4 h5 ht3 hf3 => ?_⟩
            obtain ⟨i, rfl⟩ : ∃ i : Nat, y = (i : Int) := ⟨y.toNat, by omega⟩
            have hi' : i < es.length := by omega
            refine ⟨i, rfl, .dat es[i], ⟨_, rfl, atI_nat (List.getElem?_eq_getElem hi')⟩, go i hi' (n + 3) μ3 _ hk (ht3.le (by omega)) (by omega) (hf1.trans (hf2.trans hf3)) fun e1' μ4 hb ht4 hf4 => ⟨i, rfl, [e1'], rfl, by show 1 ≤ sizeLine; omega, ?_⟩⟩
            simp only [cut_front, cut_back]
            have := fin i hi' e1' μ4 hb ht4 hf4
            exact catU_mono this fun x μ5 h => ⟨i, rfl, by rw [cut_back]; exact h⟩
  | _ =>
    walk_at "dl"
    exact ⟨t, n, v, _, rfl, ht, by omega, hv, hf, rfl, fun e μ' hb ht2 hf2 => q e μ' hb (ht2.le (by omega)) hf2⟩
theorem triv_prm {x : Str} {st : Stmt} {ps : List Str} {n k : Nat} {f : Addr} {fd : FuncData} (D : DefAt K mg x st ps f fd) : Prm P w K mg base k x n (fun _ _ _ => False) :=
  ⟨⟨f, fd, ps, ⟨fun vs H Q h => h.2.elim fun _ h => h.elim fun _ h => h.elim fun _ h => h.2.2.1.elim, fun A out s H args us vs Q _ _ _ _ _ h => h.2.elim fun _ h => h.elim fun _ h => h.elim fun _ h => h.2.2.1.elim⟩, D.at_, D.fn.kp, D.bd⟩, fun _ _ _ h => h.elim⟩
theorem ok_law_bent (T : Txt K mg) (p_law_draw : Prm P w K mg base 1 "_law_draw" 2 d_law_draw) (p_law_leaf : Prm P w K mg base 2 "_law_leaf" 2 d_law_leaf) (p_law_row_bent : Prm P w K mg base 2 "_law_row_bent" 2 d_law_row_bent) {f : Addr} {fd : FuncData} (D : DefAt K mg "_law_bent" s_law_bent ["tape", "a_thing", "deep"] f fd) : ∀ k, Prm P w K mg base (k + 2 + 1) "_law_bent" 3 (d_law_bent k)
  | 0 => step_bent T 0 _ (.inl rfl) (triv_prm D) p_law_draw p_law_leaf p_law_row_bent D
  | k + 1 => step_bent T (k + 1) _ (.inr ⟨k, rfl, rfl⟩) (ok_law_bent T p_law_draw p_law_leaf p_law_row_bent D k) p_law_draw p_law_leaf p_law_row_bent D
end
end K1


namespace K1
open PySem PySem.Spec PyProof.Rows L2 RZ DL
local macro_rules | `(tactic| walk_at "dl") => `(tactic| simp [and_assoc, mRet, mAnd, mOr, mCall, mCons, mVar, mCls, mNil, mC, oIsi, oIsi2, mNot, startD, mSeq, mIfS, mTOr, mTAnd, mTNot, mTest, mChain, mNext, oA1, oA2, oIB, oII, oII0, mOp, mUn, mAsg, mgName, mgTup, mgCons_c, mgNil_n, zipAs_l, zipAs_t, oSl_l, oSl_t, oSl_s, oSl_r, mPart, mSl, mIf, wipeD, oSign, oSS, oLen, LenD_s, LenD_l, LenD_t, LenD_m, miZ, miS, miT, miL, miE, miR, oEq, oNe, eqD_i, eqD_b, eqD_s, oInT, oIx, ixD_l, ixD_t, ixD_s, ixD_m, ix0, ix1, ix2, ix3, oAbs, oInt, oMax, oMin, mPar, mPar3, mTup, mLst, mLstM, asD, mExpr, itemsD_l, itemsD_t, oNeg, mgSub, mset_same, isStr, isTup, isLst, isBool, DL.isInt])
section
variable {P : Program} {w : World} {K : PySem.W.Frag} {mg : Str → Option Value} {base : Heap}
theorem for_gen {MI : DIx} {G : DGx} {M : DSx} {D : DEnds} {δ : Dl} {μ : Mu} (good : List PyData → Mu → Prop) (h : ∀ C : List PyData → Mu → Prop, (∀ ds μ', good ds μ' → C ds μ') → MI δ μ C)
    (h2 : ∀ ds μ1, good ds μ1 → ∃ W : Nat → Dl → Mu → Prop, W 0 δ μ1 ∧ (∀ i d δ' μ', ds[i]? = some d → W i δ' μ' → G (.dat d) δ' μ' fun δ2 μ2 => M { D with nx := W (i + 1), ct := W (i + 1), bk := D.nx } δ2 μ2) ∧ ∀ δ' μ', W ds.length δ' μ' → D.nx δ' μ') : mFor MI G M D δ μ := h _ h2
theorem cut_map {α β : Type} (f : α → β) (xs : List α) (lo hi : Option Int) : cutL (xs.map f) lo hi = (cutL xs lo hi).map f := by
  unfold cutL
  simp [List.map_take, List.map_drop]
theorem cut_mem {α : Type} {xs : List α} {lo hi : Option Int} {x : α} (h : x ∈ cutL xs lo hi) : x ∈ xs := List.mem_of_mem_drop (List.mem_of_mem_take h)
theorem cut_len2 {α : Type} {xs : List α} (j k : Nat) : (cutL xs (some (j : Nat)) (some ((j : Int) + (k : Nat)))).length ≤ k := by
  unfold cutL
  rw [show HT.sIx xs.length 0 (some (j : Int)) = min j xs.length from HT.sIx_nat xs.length _ j, show HT.sIx xs.length xs.length (some ((j : Int) + (k : Nat))) = min (j + k) xs.length from HT.sIx_nat xs.length _ (j + k), List.length_take, List.length_drop]
  omega
def wayOk (d : PyData) : Prop := ∃ (a b c : Str) (x : Int), d = .tuple [.str a, .str b, .str c, .int x] ∧ nameOk a ∧ nameOk b ∧ nameOk c ∧ 1 ≤ x ∧ x ≤ 7
theorem str_fine {n : Nat} {s : Str} (h : nameOk s) : fine n (.str s) = true := by
  simp only [fine, Bool.and_eq_true, List.all_eq_true, decide_eq_true_eq]
  exact ⟨h.2, by have := h.1; omega⟩
theorem small_fine {n : Nat} {i : Int} (h : i.natAbs ≤ 1000) : fine n (.int i) = true := by
  simp only [fine, decide_eq_true_eq]
  have h0 : 1000 ≤ ib 0 := by decide
  exact Nat.le_trans h (Nat.le_trans h0 (ib_mono (Nat.zero_le n)))
theorem sz_strs : ∀ ys : List Str, szAll (ys.map PyData.str) = ys.length
  | [] => rfl
  | _ :: ys => by
    simp only [List.map_cons, szAll, sz, sz_strs ys, List.length_cons]
    omega
theorem sz_ways : ∀ {ws : List PyData}, (∀ w ∈ ws, wayOk w) → szAll ws = 5 * ws.length
  | [], _ => rfl
  | w :: ws, h => by
    obtain ⟨a, b, c, x, rfl, _⟩ := h w (by simp)
    simp only [szAll, sz, sz_ways fun w hw => h w (List.mem_cons_of_mem _ hw), List.length_cons]
    omega
theorem plan_ok {rest : Int} {ys : List Str} {ws : List PyData} (h1 : 2 ≤ rest) (h2 : rest ≤ 25) (hl : ys.length ≤ 9) (hy : ∀ s ∈ ys, nameOk s) (hwl : ws.length ≤ 11) (hw : ∀ w ∈ ws, wayOk w) : Ok 0 150 5 (.tuple [.int rest, .tuple (ys.map PyData.str), .tuple ws]) := by
  have wf : ∀ w ∈ ws, fine 0 w = true ∧ w.depth ≤ 1 := fun w h => by
    obtain ⟨a, b, c, x, rfl, ha, hb, hc, hx1, hx7⟩ := hw w h
    refine ⟨?_, by simp [PyData.depth, PyData.depthAll]⟩
    refine fineAll_iff.mpr fun y hy => ?_
    simp only [List.mem_cons, List.not_mem_nil, or_false] at hy
    rcases hy with rfl | rfl | rfl | rfl
    · exact str_fine ha
    · exact str_fine hb
    · exact str_fine hc
    · exact small_fine (by omega)
  refine ⟨?_, ?_, ?_⟩
  · refine fineAll_iff.mpr fun y hy' => ?_
    simp only [List.mem_cons, List.not_mem_nil, or_false] at hy'
    rcases hy' with rfl | rfl | rfl
    · exact small_fine (by omega)
    · refine fineAll_iff.mpr fun x hx => ?_
      obtain ⟨s, hs, rfl⟩ := List.mem_map.mp hx
      exact str_fine (hy s hs)
    · exact fineAll_iff.mpr fun x hx => (wf x hx).1
  · simp only [sz, szAll, sz_strs, sz_ways hw]
    omega
  · have d1 : PyData.depthAll (ys.map PyData.str) ≤ 1 := depthAll_le fun x hx => by
      obtain ⟨s, hs, rfl⟩ := List.mem_map.mp hx
      simp [PyData.depth]
    have d2 : PyData.depthAll ws ≤ 1 := depthAll_le fun x hx => (wf x hx).2
    simp only [PyData.depth, PyData.depthAll]
    omega
def d_law_plan : DOs := fun as μ Q => ∃ (t : Addr) (n : Int), as = [.mut t] ∧ TapeAt t n μ ∧ n ≤ 800000 ∧ ∀ ds μ', Ok 0 150 5 (.tuple ds) → TapeAt t (n + 100) μ' → Fr t μ μ' → Q (.dat (.tuple ds)) μ'
theorem ok_law_plan (T : Txt K mg) (p_law_draw : Prm P w K mg base 1 "_law_draw" 2 d_law_draw) (p_law_names : Prm P w K mg base 2 "_law_names" 2 d_law_names) (p_law_part : Prm P w K mg base 2 "_law_part" 3 d_law_part) {f : Addr} {fd : FuncData} (D : DefAt K mg "_law_plan" s_law_plan ["tape"] f fd) : Prm P w K mg base 3 "_law_plan" 1 d_law_plan := by
  refine prm_of D sc_law_plan rfl (fun as μ Q ⟨t, n, e, _⟩ => by rw [e]; rfl) fun cdv A out s H hr hg => ⟨_, _,
(db_cons (ds_parE (i := 1) (j := 2) rfl sc_law_plan.nd rfl rfl (by decide) rfl rfl (da_cons (de_ix (de_lst (da_cons (de_op op_add so_II0 de_int (de_call p_law_draw (hr.mono (by omega)) hg (by rfl) (da_cons (de_var (pv 0)) (da_cons de_int da_nil)))) (da_cons de_int (da_cons de_int (da_cons de_int da_nil))))) (de_call p_law_draw (hr.mono (by omega)) hg (by rfl) (da_cons (de_var (pv 0)) (da_cons de_int da_nil))) (fun _ _ => rfl)) (da_cons (de_call p_law_names (hr.mono (by omega)) hg (by rfl) (da_cons (de_var (pv 0)) (da_cons de_int da_nil))) da_nil)) rfl)
    (db_cons (ds_setE (i := 3) sc_law_plan.nd rfl (by first | exact Or.inl rfl | exact Or.inr rfl) (de_ix (de_lst (da_cons (de_op op_add so_II0 de_int (de_call p_law_draw (hr.mono (by omega)) hg (by rfl) (da_cons (de_var (pv 0)) (da_cons de_int da_nil)))) (da_cons de_int (da_cons de_int (da_cons de_int (da_cons de_int (da_cons de_int da_nil))))))) (de_call p_law_draw (hr.mono (by omega)) hg (by rfl) (da_cons (de_var (pv 0)) (da_cons de_int da_nil))) (fun _ _ => rfl)))
    (db_cons (ds_parE (i := 4) (j := 5) rfl sc_law_plan.nd rfl rfl (by decide) rfl rfl (da_cons (de_callB cr_sortedS (so_A1 so_sortS) (by rfl) T.n_sorted (by decide +kernel) (da_cons (de_slice (de_var (pv 2)) dp_none (dp_some (de_var (pv 1)))) da_nil)) (da_cons (dm_lst da_nil) da_nil)) rfl)
    (db_cons (ds_setE (i := 6) sc_law_plan.nd rfl (by first | exact Or.inl rfl | exact Or.inr rfl) (de_op op_add so_II0 (de_callB (call_min2 rfl) (so_A2 so_min) (by rfl) T.n_min (by decide +kernel) (da_cons de_int (da_cons (de_callB (call_max2 rfl) (so_A2 so_max) (by rfl) T.n_max (by decide +kernel) (da_cons de_int (da_cons (de_op op_fdivW so_II (de_op op_sub so_II0 (de_var (pv 3)) de_int) de_int) da_nil))) da_nil))) (de_callTy call_int1 (so_A1 so_int) (by rfl) T.n_int (by decide +kernel) (da_cons (de_cmp op_eq so_eq (de_call p_law_draw (hr.mono (by omega)) hg (by rfl) (da_cons (de_var (pv 0)) (da_cons de_int da_nil))) de_int) da_nil))))
    (db_cons (ds_for (vs := [7]) PassesOwn.never rfl (di_list (de_callB cr_sortedS (so_A1 so_sortS) (by rfl) T.n_sorted (by decide +kernel) (da_cons (de_slice (de_var (pv 2)) (dp_some de_int) (dp_some (de_op op_add so_II0 de_int (de_ix (de_lst (da_cons (de_call p_law_draw (hr.mono (by omega)) hg (by rfl) (da_cons (de_var (pv 0)) (da_cons de_int da_nil))) (da_cons de_int (da_cons de_int (da_cons de_int da_nil))))) (de_call p_law_draw (hr.mono (by omega)) hg (by rfl) (da_cons (de_var (pv 0)) (da_cons de_int da_nil))) (fun _ _ => rfl))))) da_nil))) (dg_name (pg_name (i := 7) sc_law_plan.nd rfl (by first | exact Or.inl rfl | exact Or.inr rfl)) (by decide)) (db_one (ds_if (dt_cmp op_gt so_IB (de_var (pv 1)) de_int) (db_cons (ds_setE (i := 8) sc_law_plan.nd rfl (by first | exact Or.inl rfl | exact Or.inr rfl) (de_callB cr_sortedS (so_A1 so_sortS) (by rfl) T.n_sorted (by decide +kernel) (da_cons (de_call p_law_part (hr.mono (by omega)) hg (by rfl) (da_cons (de_var (pv 0)) (da_cons (de_var (pv 4)) (da_cons de_int da_nil)))) da_nil)))
    (db_one (ds_expr (de_appendE (de_var (pv 5)) (da_cons (de_tup (da_cons (de_var (pv 7)) (da_cons (de_ix (de_var (pv 8)) de_int (fun _ _ => rfl)) (da_cons (de_ix (de_var (pv 8)) de_int (fun _ _ => rfl)) (da_cons (de_ix (de_lst (da_cons (de_op op_add so_II0 de_int (de_call p_law_draw (hr.mono (by omega)) hg (by rfl) (da_cons (de_var (pv 0)) (da_cons (de_var (pv 6)) da_nil)))) (da_cons (de_var (pv 6)) da_nil))) (de_call p_law_draw (hr.mono (by omega)) hg (by rfl) (da_cons (de_var (pv 0)) (da_cons de_int da_nil))) (fun _ _ => rfl)) da_nil))))) da_nil))))) db_nil)))
    (db_one (ds_ret (de_drp (de_tup (da_cons (de_var (pv 3)) (da_cons (de_callTy call_tuple_of (so_A1 so_tuple) (by rfl) T.n_tuple (by decide +kernel) (da_cons (de_var (pv 4)) da_nil)) (da_cons (de_callTy call_tuple_of (so_A1 so_tuple) (by rfl) T.n_tuple (by decide +kernel) (da_cons (de_var (pv 5)) da_nil)) da_nil))))))))))))
    , fun as μ Q ⟨t, n, e, ht, hn, q⟩ => ?_⟩
  subst e
  have hsl : sizeLine = 16777216 := sizeLine_eq
  walk_at "dl"
  refine ⟨t, 8, n, rfl, ht, by omega, by decide, by decide, fun a μ1 h0 h1 ht1 hf1 => ⟨a, rfl, by decide, t, 4, n + 1, rfl, ht1, by omega, by decide, by decide, fun b μ2 h2 h3 ht2 hf2 => ?_⟩⟩
  obtain ⟨e, he, hm⟩ := atI_mem (l := [PyData.int (1 + a), PyData.int 8, PyData.int 9, PyData.int 2]) h2 (by simp; omega)
  obtain ⟨m, rfl, hm1, hm9⟩ : ∃ m : Nat, e = .int (m : Nat) ∧ 1 ≤ m ∧ m ≤ 9 := by
    simp only [List.mem_cons, List.not_mem_nil, or_false] at hm
    rcases hm with rfl | rfl | rfl | rfl
    · exact ⟨(1 + a).toNat, by rw [Int.toNat_of_nonneg (by omega)], by omega, by omega⟩
    · exact ⟨8, rfl, by decide, by decide⟩
    · exact ⟨9, rfl, by decide, by decide⟩
    · exact ⟨2, rfl, by decide, by decide⟩
  refine ⟨b, rfl, .dat (.int (m : Nat)), ⟨_, rfl, he⟩, t, n + 2, rfl, ht2.le (by omega), by omega, fun ss μ3 hsl hss ht3 hf3 => ⟨t, 22, n + 22, rfl, ht3.le (by omega), by omega, by decide, by decide, fun c μ4 h4 h5 ht4 hf4 => ⟨c, rfl, by decide, t, 6, n + 23, rfl, ht4.le (by omega), by omega, by decide, by decide, fun r μ5 h6 h7 ht5 hf5 => ?_⟩⟩⟩
  obtain ⟨e2, he2, hm2⟩ := atI_mem (l := [PyData.int (3 + c), PyData.int 3, PyData.int 24, PyData.int 13, PyData.int 2, PyData.int 25]) h6 (by simp; omega)
  obtain ⟨rest, rfl, hr2, hr25⟩ : ∃ rest : Int, e2 = .int rest ∧ 2 ≤ rest ∧ rest ≤ 25 := by
    simp only [List.mem_cons, List.not_mem_nil, or_false] at hm2
    rcases hm2 with rfl | rfl | rfl | rfl | rfl | rfl
    · exact ⟨_, rfl, by omega, by omega⟩
    all_goals exact ⟨_, rfl, by decide, by decide⟩
  refine ⟨r, rfl, .dat (.int rest), ⟨_, rfl, he2⟩, m, rfl, ?_⟩
  rw [oSl_l, cut_front, ← List.map_take]
  have hf05 : Fr t μ μ5 := hf1.trans (hf2.trans (hf3.trans (hf4.trans hf5)))
  refine ⟨_, rfl, by rw [List.length_take]; omega, fun ys hp _ p hpn => ⟨rest, rfl, divw (by omega) (by decide), ?_⟩⟩
  have hyl : ys.length = m := by rw [hp.length_eq, List.length_take]; omega
  have hyk : ∀ s ∈ ys, nameOk s := fun s hs => hss s (List.mem_of_mem_take (hp.mem_iff.mp hs))
  have hpt : p ≠ t := fun e => by
    obtain ⟨a, b, c, h, _⟩ := ht5
    rw [← e, hpn] at h
    cases h
  have set_tape : ∀ {k : Int} {μ' : Mu} {o : Option MO}, TapeAt t k μ' → TapeAt t k (mset μ' p o) := fun {k μ' o} ⟨a, b, c, h, r⟩ => ⟨a, b, c, by rw [mset_ne hpt.symm]; exact h, r⟩
  refine ⟨t, 6, n + 24, rfl, set_tape (ht5.le (by omega)), by omega, by decide, by decide, fun u μ6 h8 h9 ht6 hf6 => ⟨.int u, rfl, ?_⟩⟩
  have ht6' : TapeAt t (n + 25) μ6 := ht6.le (by omega)
  by_cases hu0 : u = 0
  · refine .inr ⟨by simp [eqD, hu0], ?_⟩
    refine for_gen (fun ds μ' => ∃ ns : List Str, ds = ns.map PyData.str ∧ ns.length ≤ 11 ∧ (∀ s ∈ ns, nameOk s) ∧ TapeAt t (n + 27) μ' ∧ Fr t (mset μ5 p (some (MO.lst []))) μ') (fun C hC => ?_) (fun ds μ7 ⟨ns, e1, hns, hnk, ht7, hf7⟩ => ?_)
    · walk_at "dl"
      refine ⟨t, 11, n + 25, rfl, ht6', by omega, by decide, by decide, fun x1 μ7 g0 g1 ht7 hf7 => ⟨[.int x1, .int 10, .int 11, .int 1], rfl, by show 4 ≤ sizeLine; omega, t, 4, n + 26, rfl, ht7.le (by omega), by omega, by decide, by decide, fun i μ8 g2 g3 ht8 hf8 => ?_⟩⟩
      obtain ⟨e3, he3, hm3⟩ := atI_mem (l := [PyData.int x1, PyData.int 10, PyData.int 11, PyData.int 1]) g2 (by simp; omega)
      obtain ⟨x2, rfl, hx⟩ : ∃ x2 : Nat, e3 = .int (x2 : Nat) ∧ x2 ≤ 11 := by
        simp only [List.mem_cons, List.not_mem_nil, or_false] at hm3
        rcases hm3 with rfl | rfl | rfl | rfl
        · exact ⟨x1.toNat, by rw [Int.toNat_of_nonneg (by omega)], by omega⟩
        · exact ⟨10, rfl, by decide⟩
        · exact ⟨11, rfl, by decide⟩
        · exact ⟨1, rfl, by decide⟩
      refine ⟨i, rfl, .dat (.int (x2 : Nat)), ⟨_, rfl, he3⟩, x2, rfl, cutL ss (some 9) (some (9 + (x2 : Int))), by rw [cut_map], ?_, fun zs hp2 _ => ⟨_, rfl, hC _ _ ⟨zs, rfl, ?_, fun s hs => hss s (cut_mem (hp2.mem_iff.mp hs)), ht8.le (by omega), hf6.trans (hf7.trans hf8)⟩⟩⟩
      · exact Nat.lt_of_le_of_lt (cut_len2 9 x2) (by omega)
      · rw [hp2.length_eq]
        exact Nat.le_trans (cut_len2 9 x2) hx
    · have hx' : ∀ b, b ≠ t → b ≠ p → μ7 b = μ b := fun b hb hb2 => by rw [hf7 b hb, mset_ne hb2, hf05 b hb]
      have hp7 : μ7 p = some (.lst []) := (hf7 p hpt).trans mset_same
      refine ⟨fun i δ' μ' => ∃ (ws : List PyData) (tp : Int) (y7 y8 : Option AV), δ' = [some (.mut t), some (.dat (.int (m : Nat))), some (.dat (.list (ss.map PyData.str))), some (.dat (.int rest)), some (.dat (.list (ys.map PyData.str))), some (.mut p), some (.dat (.int tp)), y7, y8] ∧ 1 ≤ tp ∧ tp ≤ 7 ∧ ws.length ≤ i ∧ (∀ w ∈ ws, wayOk w) ∧ μ' p = some (.lst (ws.map AV.dat)) ∧ TapeAt t (n + 27 + 4 * i) μ' ∧ ∀ b, b ≠ t → b ≠ p → μ' b = μ b, ⟨[], _, none, none, rfl, by (repeat' split) <;> omega, by (repeat' split) <;> omega, by simp, by simp, hp7, by simpa using ht7, hx'⟩, ?_, ?_⟩
      · rintro i d δ' μ' hd ⟨ws, tp, y7, y8, rfl, t1, t7, hwl, hws, hwp, htt, hfr⟩
        have hi11 : i < ns.length := by
          have := (List.getElem?_eq_some_iff.mp hd).1
          rw [e1, List.length_map] at this
          exact this
        obtain ⟨nm, rfl, hnm⟩ : ∃ nm, d = .str nm ∧ nameOk nm := by
          have := List.mem_of_getElem? hd
          rw [e1] at this
          obtain ⟨nm, h1, h2⟩ := List.mem_map.mp this
          exact ⟨nm, h2.symm, hnk nm h1⟩
        walk_at "dl"
        by_cases hm2 : 1 < m
        · rw [if_pos (by omega)]
          refine ⟨t, n + 27 + 4 * i, ys, rfl, htt, by omega, by omega, by omega, hyk, fun s1 s2 μ8 k1 k2 ht8 hf8 => ⟨[s1, s2], rfl, by show 2 < 64; decide, fun zs hp3 _ => ?_⟩⟩
          obtain ⟨z1, z2, rfl, hz1, hz2⟩ : ∃ z1 z2, zs = [z1, z2] ∧ nameOk z1 ∧ nameOk z2 := by
            have hl := hp3.length_eq
            match zs, hl with
            | [z1, z2], _ =>
              have hall : ∀ z ∈ [z1, z2], nameOk z := fun z hz => by
                have := hp3.mem_iff.mp hz
                simp only [List.mem_cons, List.not_mem_nil, or_false] at this
                rcases this with rfl | rfl
                · exact k1
                · exact k2
              exact ⟨z1, z2, rfl, hall _ (by simp), hall _ (by simp)⟩
          have hwp8 : μ8 p = some (.lst (ws.map AV.dat)) := (hf8 p hpt).trans hwp
          simp only [mAppend]
          walk_at "dl"
          refine ⟨⟨_, hwp8⟩, t, tp, n + 27 + 4 * i + 2, rfl, ht8, by omega, t1, by omega, fun x μ9 j0 j1 ht9 hf9 => ⟨x, rfl, by show 2 ≤ sizeLine; omega, t, 2, n + 27 + 4 * i + 2 + 1, rfl, ht9, by omega, by decide, by decide, fun i1 μ10 j2 j3 ht10 hf10 => ?_⟩⟩
          obtain ⟨e4, he4, hm4⟩ := atI_mem (l := [PyData.int (1 + x), PyData.int tp]) j2 (by simp; omega)
          obtain ⟨bt, rfl, hb1, hb7⟩ : ∃ bt : Int, e4 = .int bt ∧ 1 ≤ bt ∧ bt ≤ 7 := by
            simp only [List.mem_cons, List.not_mem_nil, or_false] at hm4
            rcases hm4 with rfl | rfl
            · exact ⟨_, rfl, by omega, by omega⟩
            · exact ⟨_, rfl, t1, t7⟩
          have hwp10 : μ10 p = some (.lst (ws.map AV.dat)) := (hf10 p hpt).trans ((hf9 p hpt).trans hwp8)
          refine ⟨i1, rfl, .dat (.int bt), ⟨_, rfl, he4⟩, _, ⟨_, rfl, rfl⟩, by show 4 ≤ sizeLine; omega, _, hwp10, by rw [List.length_map]; omega, t1, t7, ws ++ [.tuple [.str nm, .str z1, .str z2, .int bt]], by rw [List.length_append]; simp; omega, fun w hw => ?_, by rw [List.map_append]; rfl, set_tape (ht10.le (by omega)), fun b hb hb2 => ?_⟩
          · rcases List.mem_append.mp hw with q' | q'
            · exact hws w q'
            · rw [List.mem_singleton.mp q']
              exact ⟨nm, z1, z2, bt, rfl, hnm, hz1, hz2, hb1, hb7⟩
          · rw [mset_ne hb2, hf10 b hb, hf9 b hb, hf8 b hb]
            exact hfr b hb hb2
        · rw [if_neg (by omega)]
          exact ⟨t1, t7, ws, by omega, hws, hwp, htt.le (by omega), hfr⟩
      · rintro δ' μ' ⟨ws, tp, y7, y8, rfl, t1, t7, hwl, hws, hwp, htt, hfr⟩
        walk_at "dl"
        simp only [mDrp]
        walk_at "dl"
        have hws11 : ws.length ≤ 11 := by
          have : ds.length = ns.length := by rw [e1, List.length_map]
          omega
        refine .inl ⟨_, _, rfl, rfl, .inr ⟨p, ws, rfl, hwp, _, ⟨_, rfl, rfl⟩, by show 3 ≤ sizeLine; omega, p, q _ _ (plan_ok hr2 hr25 (by omega) hyk hws11 hws) (set_tape (htt.le ?_)) fun b hb => ?_⟩⟩
        · have : ds.length = ns.length := by rw [e1, List.length_map]
          omega
        · by_cases hb2 : b = p
          · rw [hb2, mset_same, ← hf05 p hpt, hpn]
          · rw [mset_ne hb2]
            exact hfr b hb hb2
  · refine .inl ⟨by simp [eqD, hu0], ?_⟩
    refine for_gen (fun ds μ' => ∃ ns : List Str, ds = ns.map PyData.str ∧ ns.length ≤ 11 ∧ (∀ s ∈ ns, nameOk s) ∧ TapeAt t (n + 27) μ' ∧ Fr t (mset μ5 p (some (MO.lst []))) μ') (fun C hC => ?_) (fun ds μ7 ⟨ns, e1, hns, hnk, ht7, hf7⟩ => ?_)
    · walk_at "dl"
      refine ⟨t, 11, n + 25, rfl, ht6', by omega, by decide, by decide, fun x1 μ7 g0 g1 ht7 hf7 => ⟨[.int x1, .int 10, .int 11, .int 1], rfl, by show 4 ≤ sizeLine; omega, t, 4, n + 26, rfl, ht7.le (by omega), by omega, by decide, by decide, fun i μ8 g2 g3 ht8 hf8 => ?_⟩⟩
      obtain ⟨e3, he3, hm3⟩ := atI_mem (l := [PyData.int x1, PyData.int 10, PyData.int 11, PyData.int 1]) g2 (by simp; omega)
      obtain ⟨x2, rfl, hx⟩ : ∃ x2 : Nat, e3 = .int (x2 : Nat) ∧ x2 ≤ 11 := by
        simp only [List.mem_cons, List.not_mem_nil, or_false] at hm3
        rcases hm3 with rfl | rfl | rfl | rfl
        · exact ⟨x1.toNat, by rw [Int.toNat_of_nonneg (by omega)], by omega⟩
        · exact ⟨10, rfl, by decide⟩
        · exact ⟨11, rfl, by decide⟩
        · exact ⟨1, rfl, by decide⟩
      refine ⟨i, rfl, .dat (.int (x2 : Nat)), ⟨_, rfl, he3⟩, x2, rfl, cutL ss (some 9) (some (9 + (x2 : Int))), by rw [cut_map], ?_, fun zs hp2 _ => ⟨_, rfl, hC _ _ ⟨zs, rfl, ?_, fun s hs => hss s (cut_mem (hp2.mem_iff.mp hs)), ht8.le (by omega), hf6.trans (hf7.trans hf8)⟩⟩⟩
      · exact Nat.lt_of_le_of_lt (cut_len2 9 x2) (by omega)
      · rw [hp2.length_eq]
        exact Nat.le_trans (cut_len2 9 x2) hx
    · have hx' : ∀ b, b ≠ t → b ≠ p → μ7 b = μ b := fun b hb hb2 => by rw [hf7 b hb, mset_ne hb2, hf05 b hb]
      have hp7 : μ7 p = some (.lst []) := (hf7 p hpt).trans mset_same
      refine ⟨fun i δ' μ' => ∃ (ws : List PyData) (tp : Int) (y7 y8 : Option AV), δ' = [some (.mut t), some (.dat (.int (m : Nat))), some (.dat (.list (ss.map PyData.str))), some (.dat (.int rest)), some (.dat (.list (ys.map PyData.str))), some (.mut p), some (.dat (.int tp)), y7, y8] ∧ 1 ≤ tp ∧ tp ≤ 7 ∧ ws.length ≤ i ∧ (∀ w ∈ ws, wayOk w) ∧ μ' p = some (.lst (ws.map AV.dat)) ∧ TapeAt t (n + 27 + 4 * i) μ' ∧ ∀ b, b ≠ t → b ≠ p → μ' b = μ b, ⟨[], _, none, none, rfl, by (repeat' split) <;> omega, by (repeat' split) <;> omega, by simp, by simp, hp7, by simpa using ht7, hx'⟩, ?_, ?_⟩
      · rintro i d δ' μ' hd ⟨ws, tp, y7, y8, rfl, t1, t7, hwl, hws, hwp, htt, hfr⟩
        have hi11 : i < ns.length := by
          have := (List.getElem?_eq_some_iff.mp hd).1
          rw [e1, List.length_map] at this
          exact this
        obtain ⟨nm, rfl, hnm⟩ : ∃ nm, d = .str nm ∧ nameOk nm := by
          have := List.mem_of_getElem? hd
          rw [e1] at this
          obtain ⟨nm, h1, h2⟩ := List.mem_map.mp this
          exact ⟨nm, h2.symm, hnk nm h1⟩
        walk_at "dl"
        by_cases hm2 : 1 < m
        · rw [if_pos (by omega)]
          refine ⟨t, n + 27 + 4 * i, ys, rfl, htt, by omega, by omega, by omega, hyk, fun s1 s2 μ8 k1 k2 ht8 hf8 => ⟨[s1, s2], rfl, by show 2 < 64; decide, fun zs hp3 _ => ?_⟩⟩
          obtain ⟨z1, z2, rfl, hz1, hz2⟩ : ∃ z1 z2, zs = [z1, z2] ∧ nameOk z1 ∧ nameOk z2 := by
            have hl := hp3.length_eq
            match zs, hl with
            | [z1, z2], _ =>
              have hall : ∀ z ∈ [z1, z2], nameOk z := fun z hz => by
                have := hp3.mem_iff.mp hz
                simp only [List.mem_cons, List.not_mem_nil, or_false] at this
                rcases this with rfl | rfl
                · exact k1
                · exact k2
              exact ⟨z1, z2, rfl, hall _ (by simp), hall _ (by simp)⟩
          have hwp8 : μ8 p = some (.lst (ws.map AV.dat)) := (hf8 p hpt).trans hwp
          simp only [mAppend]
          walk_at "dl"
          refine ⟨⟨_, hwp8⟩, t, tp, n + 27 + 4 * i + 2, rfl, ht8, by omega, t1, by omega, fun x μ9 j0 j1 ht9 hf9 => ⟨x, rfl, by show 2 ≤ sizeLine; omega, t, 2, n + 27 + 4 * i + 2 + 1, rfl, ht9, by omega, by decide, by decide, fun i1 μ10 j2 j3 ht10 hf10 => ?_⟩⟩
          obtain ⟨e4, he4, hm4⟩ := atI_mem (l := [PyData.int (1 + x), PyData.int tp]) j2 (by simp; omega)
          obtain ⟨bt, rfl, hb1, hb7⟩ : ∃ bt : Int, e4 = .int bt ∧ 1 ≤ bt ∧ bt ≤ 7 := by
            simp only [List.mem_cons, List.not_mem_nil, or_false] at hm4
            rcases hm4 with rfl | rfl
            · exact ⟨_, rfl, by omega, by omega⟩
            · exact ⟨_, rfl, t1, t7⟩
          have hwp10 : μ10 p = some (.lst (ws.map AV.dat)) := (hf10 p hpt).trans ((hf9 p hpt).trans hwp8)
          refine ⟨i1, rfl, .dat (.int bt), ⟨_, rfl, he4⟩, _, ⟨_, rfl, rfl⟩, by show 4 ≤ sizeLine; omega, _, hwp10, by rw [List.length_map]; omega, t1, t7, ws ++ [.tuple [.str nm, .str z1, .str z2, .int bt]], by rw [List.length_append]; simp; omega, fun w hw => ?_, by rw [List.map_append]; rfl, set_tape (ht10.le (by omega)), fun b hb hb2 => ?_⟩
          · rcases List.mem_append.mp hw with q' | q'
            · exact hws w q'
            · rw [List.mem_singleton.mp q']
              exact ⟨nm, z1, z2, bt, rfl, hnm, hz1, hz2, hb1, hb7⟩
          · rw [mset_ne hb2, hf10 b hb, hf9 b hb, hf8 b hb]
            exact hfr b hb hb2
        · rw [if_neg (by omega)]
          exact ⟨t1, t7, ws, by omega, hws, hwp, htt.le (by omega), hfr⟩
      · rintro δ' μ' ⟨ws, tp, y7, y8, rfl, t1, t7, hwl, hws, hwp, htt, hfr⟩
        walk_at "dl"
        simp only [mDrp]
        walk_at "dl"
        have hws11 : ws.length ≤ 11 := by
          have : ds.length = ns.length := by rw [e1, List.length_map]
          omega
        refine .inl ⟨_, _, rfl, rfl, .inr ⟨p, ws, rfl, hwp, _, ⟨_, rfl, rfl⟩, by show 3 ≤ sizeLine; omega, p, q _ _ (plan_ok hr2 hr25 (by omega) hyk hws11 hws) (set_tape (htt.le ?_)) fun b hb => ?_⟩⟩
        · have : ds.length = ns.length := by rw [e1, List.length_map]
          omega
        · by_cases hb2 : b = p
          · rw [hb2, mset_same, ← hf05 p hpt, hpn]
          · rw [mset_ne hb2]
            exact hfr b hb hb2
end
end K1


namespace K1
open PySem PySem.Spec PyProof.Rows L2 RZ DL
local macro_rules | `(tactic| walk_at "dl") => `(tactic| simp [and_assoc, mRet, mAnd, mOr, mCall, mCons, mVar, mCls, mNil, mC, oIsi, oIsi2, mNot, startD, mSeq, mIfS, mTOr, mTAnd, mTNot, mTest, mChain, mNext, oA1, oA2, oIB, oII, oII0, mOp, mUn, mAsg, mgName, mgTup, mgCons_c, mgNil_n, zipAs_l, zipAs_t, oSl_l, oSl_t, oSl_s, oSl_r, mPart, mSl, mIf, wipeD, oSign, oSS, oLen, LenD_s, LenD_l, LenD_t, LenD_m, miZ, miS, miT, miL, miE, miR, oEq, oNe, eqD_i, eqD_b, eqD_s, oInT, oIx, ixD_l, ixD_t, ixD_s, ixD_m, ix0, ix1, ix2, ix3, oAbs, oInt, oMax, oMin, mPar, mPar3, mTup, mLst, mLstM, asD, mExpr, itemsD_l, itemsD_t, oNeg, mgSub, mset_same, isStr, isTup, isLst, isBool, DL.isInt])
section
variable {P : Program} {w : World} {K : PySem.W.Frag} {mg : Str → Option Value} {base : Heap}
def d_law_right : DOs := fun as μ Q => ∃ d, as = [.dat d] ∧ Ok 3 10000 50 d ∧ Q (.dat (.bool true)) μ
theorem ok_law_right (T : Txt K mg) (p_law_due : Prm P w K mg base 3 "_law_due" 1 d_law_due) (p_is_plan : Prm P w K mg base 5 "is_plan" 1 d_is_plan) (k_is_plan : PrmK P w K mg base 5 "is_plan" 1 ["thing"] d_is_plan) {f : Addr} {fd : FuncData} (D : DefAt K mg "_law_right" s_law_right ["a_thing"] f fd) : Prm P w K mg base 6 "_law_right" 1 d_law_right := by
  refine prm_of D sc_law_right rfl (fun as μ Q ⟨d, e, _⟩ => by rw [e]; rfl) fun cdv A out s H hr hg => ⟨_, _,
(db_cons (ds_asg (vs := [1, 2]) (de_tup (da_cons (de_callB (call_repr hg (hu64 hr)) (so_A1 so_repr) (by rfl) T.n_repr (by decide +kernel) (da_cons (de_var (pv 0)) da_nil)) (da_cons (de_call p_law_due (hr.mono (by omega)) hg (by rfl) (da_cons (de_var (pv 0)) da_nil)) da_nil))) (dg_tup (K := K) (n := 2) rfl rfl (dgs_cons (dg_name (pg_name (i := 1) sc_law_right.nd rfl (by first | exact Or.inl rfl | exact Or.inr rfl)) (by decide)) (dgs_cons (dg_name (pg_name (i := 2) sc_law_right.nd rfl (by first | exact Or.inl rfl | exact Or.inr rfl)) (by decide)) dgs_nil))))
    (db_cons (ds_setE (i := 3) sc_law_right.nd rfl (by first | exact Or.inl rfl | exact Or.inr rfl) (de_lst (da_cons (de_call p_is_plan (hr.mono (by omega)) hg (by rfl) (da_cons (de_var (pv 0)) da_nil)) (da_cons (de_callK k_is_plan (hr.mono (by omega)) hg (by rfl) (dk_cons (de_var (pv 0)) dk_nil)) da_nil))))
    (db_one (ds_ret (de_and (de_callB (cr_all rfl) (so_A1 so_all) (by rfl) T.n_all (by decide +kernel) (da_cons (de_lc (own := [("one", 4)]) rfl sc_law_right.nd (di_list (de_var (pv 3))) (blkOk_by (N := N_law_right) (sc := defScope s_law_right) (by decide +kernel)) (fun _ _ _ _ _ => (dg_name (pg_name (i := 4) sc_law_right.nd rfl (by first | exact Or.inl rfl | exact Or.inr rfl)) (by decide))) (fun _ _ _ _ _ => dts_nil) (fun _ _ _ _ _ => (de_and (de_callBC (K := K) (rr := rIsi) rfl call_isi (so_isi k_bool) (by rfl) T.n_isinstance (by decide +kernel) (da_cons (de_var (pv 4)) (da_cons (de_cls (pe_bltn (v := .ty "bool") (by rfl) T.n_bool (by decide +kernel) rfl)) da_nil))) (de_one (de_cmp op_eq so_eq (de_var (pv 4)) (de_var (pv 2))))))) da_nil)) (de_one (de_cmp op_eq so_eq (de_callB (call_repr hg (hu64 hr)) (so_A1 so_repr) (by rfl) T.n_repr (by decide +kernel) (da_cons (de_var (pv 0)) da_nil)) (de_var (pv 1)))))))))
    , fun as μ Q ⟨d, e, ho, q⟩ => ?_⟩
  subst e
  have hsl : sizeLine = 16777216 := sizeLine_eq
  obtain ⟨r1, r2, r3, r4⟩ := ho.shown (by decide) (by decide) (by decide)
  walk_at "dl"
  refine ⟨d, rfl, r1, r2, r3, r4, d, rfl, ho, _, rfl, by show 2 ≤ sizeLine; omega, rfl, ?_⟩
  walk_at "dl"
  refine ⟨d, rfl, ho, d, rfl, ho, _, rfl, by show 2 ≤ sizeLine; omega, lc_pure [.bool (isPlan d), .bool (isPlan d)] (fun _ => .bool true) (fun R r => by walk_at "dl"; exact r) (by show 2 ≤ sizeLine; omega) (fun x hx μ' R r => ?_) ?_⟩
  · obtain rfl : x = .bool (isPlan d) := by
      simp only [List.mem_cons, List.not_mem_nil, or_false] at hx
      rcases hx with rfl | rfl <;> rfl
    walk_at "dl"
    exact r
  · refine all_map _ (fun _ => true) _ _ ?_
    refine .inr ⟨rfl, d, rfl, r1, r2, r3, r4, _, rfl, .inr ⟨by simp [eqD], q⟩⟩
end
end K1


namespace K1
open PySem PySem.Spec PyProof.Rows L2 RZ DL
local macro_rules | `(tactic| walk_at "dl") => `(tactic| simp [and_assoc, mRet, mAnd, mOr, mCall, mCons, mVar, mCls, mNil, mC, oIsi, oIsi2, mNot, startD, mSeq, mIfS, mTOr, mTAnd, mTNot, mTest, mChain, mNext, oA1, oA2, oIB, oII, oII0, mOp, mUn, mAsg, mgName, mgTup, mgCons_c, mgNil_n, zipAs_l, zipAs_t, oSl_l, oSl_t, oSl_s, oSl_r, mPart, mSl, mIf, wipeD, oSign, oSS, oLen, LenD_s, LenD_l, LenD_t, LenD_m, miZ, miS, miT, miL, miE, miR, oEq, oNe, eqD_i, eqD_b, eqD_s, oInT, oIx, ixD_l, ixD_t, ixD_s, ixD_m, ix0, ix1, ix2, ix3, oAbs, oInt, oMax, oMin, mPar, mPar3, mTup, mLst, mLstM, asD, mExpr, itemsD_l, itemsD_t, oNeg, mgSub, mset_same, isStr, isTup, isLst, isBool, DL.isInt])
section
variable {P : Program} {w : World} {K : PySem.W.Frag} {mg : Str → Option Value} {base : Heap}
theorem Ok.lst {n b m : Nat} {ds : List PyData} (h : Ok n b m (.tuple ds)) : Ok n b m (.list ds) := ⟨h.fn, h.sz, h.dp⟩
def d_law : DOs := fun as μ Q => ∃ ns : List Int, as = [.raw ns] ∧ ns.length ≤ 63 ∧ ∀ μ', Q (.dat (.bool true)) μ'
theorem ok_law_body (T : Txt K mg) (p_law_folded : Prm P w K mg base 1 "_law_folded" 2 d_law_folded) (p_law_tape : Prm P w K mg base 1 "_law_tape" 2 d_law_tape) (p_law_draw : Prm P w K mg base 1 "_law_draw" 2 d_law_draw) (p_law_plan : Prm P w K mg base 3 "_law_plan" 1 d_law_plan) (p_law_bent : Prm P w K mg base 7 "_law_bent" 3 (d_law_bent 4)) (p_law_right : Prm P w K mg base 6 "_law_right" 1 d_law_right) {f : Addr} {fd : FuncData} (D : DefAt K mg "law" s_law ["script"] f fd) : FnG P w K mg base 8 f fd ["script"] (spOf K 1 d_law) := by
  refine fng_by D.fn sc_law rfl fun cdv A out s H hr hg => ⟨_, _,
(db_cons (ds_setE (i := 1) sc_law.nd rfl (by first | exact Or.inl rfl | exact Or.inr rfl) (de_call p_law_folded (hr.mono (by omega)) hg (by rfl) (da_cons (de_var (pv 0)) (da_cons de_int da_nil))))
    (db_cons (ds_for (vs := [2]) PassesOwn.never rfl (di_rangeE (by rfl) T.n_range (da_cons (de_callB (call_max2 rfl) (so_A2 so_max) (by rfl) T.n_max (by decide +kernel) (da_cons de_int (da_cons (de_callB call_len (so_A1 so_len) (by rfl) T.n_len (by decide +kernel) (da_cons (de_var (pv 1)) da_nil)) da_nil))) da_nil)) (dg_name (pg_name (i := 2) sc_law.nd rfl (by first | exact Or.inl rfl | exact Or.inr rfl)) (by decide)) (db_cons (ds_setE (i := 3) sc_law.nd rfl (by first | exact Or.inl rfl | exact Or.inr rfl) (de_call p_law_tape (hr.mono (by omega)) hg (by rfl) (da_cons (de_var (pv 1)) (da_cons (de_var (pv 2)) da_nil))))
    (db_cons (ds_for (vs := [4]) PassesOwn.never rfl (di_rangeE (by rfl) T.n_range (da_cons de_int da_nil)) (dg_name (pg_name (i := 4) sc_law.nd rfl (by first | exact Or.inl rfl | exact Or.inr rfl)) (by decide)) (db_cons (ds_setE (i := 5) sc_law.nd rfl (by first | exact Or.inl rfl | exact Or.inr rfl) (de_call p_law_plan (hr.mono (by omega)) hg (by rfl) (da_cons (de_var (pv 3)) da_nil)))
    (db_cons (ds_if (DW.dt (dw_or (dt_not (dt_val (de_call p_law_right (hr.mono (by omega)) hg (by rfl) (da_cons (de_var (pv 5)) da_nil)))) (dw_or1 (dt_not (dt_val (de_call p_law_right (hr.mono (by omega)) hg (by rfl) (da_cons (de_callTy call_list_of (so_A1 so_list) (by rfl) T.n_list (by decide +kernel) (da_cons (de_var (pv 5)) da_nil)) da_nil))))))) (db_one (ds_ret de_bl)) db_nil)
    (db_one (ds_for (vs := [6]) PassesOwn.never rfl (di_rangeE (by rfl) T.n_range (da_cons de_int da_nil)) (dg_name (pg_name (i := 6) sc_law.nd rfl (by first | exact Or.inl rfl | exact Or.inr rfl)) (by decide)) (db_cons (ds_setE (i := 7) sc_law.nd rfl (by first | exact Or.inl rfl | exact Or.inr rfl) (de_call p_law_bent (hr.mono (by omega)) hg (by rfl) (da_cons (de_var (pv 3)) (da_cons (de_var (pv 5)) (da_cons de_int da_nil)))))
    (db_cons (ds_setE (i := 7) sc_law.nd rfl (by first | exact Or.inl rfl | exact Or.inr rfl) (de_if (dt_cmp op_eq so_eq (de_call p_law_draw (hr.mono (by omega)) hg (by rfl) (da_cons (de_var (pv 3)) (da_cons de_int da_nil))) de_int) (de_call p_law_bent (hr.mono (by omega)) hg (by rfl) (da_cons (de_var (pv 3)) (da_cons (de_var (pv 7)) (da_cons de_int da_nil)))) (de_var (pv 7))))
    (db_one (ds_if (dt_not (dt_val (de_call p_law_right (hr.mono (by omega)) hg (by rfl) (da_cons (de_var (pv 7)) da_nil)))) (db_one (ds_ret de_bl)) db_nil)))))))))
    (db_cons (ds_setE (i := 8) sc_law.nd rfl (by first | exact Or.inl rfl | exact Or.inr rfl) (de_lst (da_cons de_non (da_cons de_bl (da_cons de_str (da_cons de_int (da_cons (de_tup da_nil) (da_cons (de_lst da_nil) (da_cons (de_tup (da_cons de_int (da_cons (de_tup (da_cons de_str da_nil)) (da_cons (de_tup da_nil) da_nil)))) (da_cons (de_tup (da_cons de_int (da_cons (de_tup da_nil) (da_cons (de_tup da_nil) da_nil)))) (da_cons (de_tup (da_cons de_int (da_cons (de_tup (da_cons de_str (da_cons de_str da_nil))) (da_cons (de_tup da_nil) da_nil)))) (da_cons (de_tup (da_cons de_bl (da_cons (de_tup (da_cons de_str da_nil)) (da_cons (de_tup da_nil) da_nil)))) da_nil))))))))))))
    (db_one (ds_for (vs := [7]) PassesOwn.never rfl (di_list (de_var (pv 8))) (dg_name (pg_name (i := 7) sc_law.nd rfl (by first | exact Or.inl rfl | exact Or.inr rfl)) (by decide)) (db_one (ds_if (dt_not (dt_val (de_call p_law_right (hr.mono (by omega)) hg (by rfl) (da_cons (de_var (pv 7)) da_nil)))) (db_one (ds_ret de_bl)) db_nil))))))))
    (db_one (ds_ret de_bl))))
    , fun as μ Q ⟨ns, e, hl, q⟩ => ?_⟩
  subst e
  have hsl : sizeLine = 16777216 := sizeLine_eq
  walk_at "dl"
  refine ⟨ns, rfl, hl, fun cs hcs => ?_⟩
  refine for_by (μ1 := μ) (rangeD 0 (if (cs.length : Int) > 1 then (cs.length : Int) else 1).toNat) (fun R r => by walk_at "dl"; exact ⟨by split <;> omega, by split <;> omega, r⟩) (fun i δ' μ' => ∃ y2 y3 y4 y5 y6 y7 y8, δ' = [some (.raw ns), some (.dat (.list (cs.map PyData.int))), y2, y3, y4, y5, y6, y7, y8]) ⟨none, none, none, none, none, none, none, rfl⟩ (fun i d δ' μ' hd ⟨y2, y3, y4, y5, y6, y7, y8, e1⟩ => ?_) (fun δ' μ' ⟨y2, y3, y4, y5, y6, y7, y8, e1⟩ => ?_)
  · subst e1
    obtain ⟨rfl, hi⟩ := rangeD_get hd
    have hi4 : i < 4 := by
      split at hi <;> omega
    walk_at "dl"
    refine ⟨cs, i, rfl, by omega, by omega, fun t μ1 _ ht1 _ => ?_⟩
    refine for_by (μ1 := μ1) (rangeD 0 3) (fun R r => by walk_at "dl"; simpa using r) (fun j δ' μ' => ∃ y4 y5 y6 y7 y8, δ' = [some (.raw ns), some (.dat (.list (cs.map PyData.int))), some (.dat (.int (i : Nat))), some (.mut t), y4, y5, y6, y7, y8] ∧ TapeAt t (500 * j) μ') ⟨y4, y5, y6, y7, y8, rfl, by simpa using ht1⟩ (fun j d δ' μ' hd ⟨y4, y5, y6, y7, y8, e1, ht⟩ => ?_) (fun δ' μ' ⟨y4, y5, y6, y7, y8, e1, ht⟩ => ?_)
    · subst e1
      obtain ⟨rfl, hj⟩ := rangeD_get hd
      walk_at "dl"
      refine ⟨t, 500 * j, rfl, ht, by omega, fun ds μ2 ok ht2 hf2 => ?_⟩
      walk_at "dl"
      have okl : Ok 0 150 5 (.list ds) := Ok.lst ok
      refine ⟨_, rfl, ok.le (by decide) (by decide) (by decide), .inr ⟨rfl, _, ds, rfl, rfl, _, rfl, okl.le (by decide) (by decide) (by decide), .inr ⟨rfl, ?_⟩⟩⟩
      refine for_by (μ1 := μ2) (rangeD 0 8) (fun R r => by walk_at "dl"; simpa using r) (fun l δ' μ' => ∃ y6 y7 y8, δ' = [some (.raw ns), some (.dat (.list (cs.map PyData.int))), some (.dat (.int (i : Nat))), some (.mut t), some (.dat (.int (j : Nat))), some (.dat (.tuple ds)), y6, y7, y8] ∧ TapeAt t (500 * j + 100 + 41 * l) μ') ⟨y6, y7, y8, rfl, by simpa using ht2⟩ (fun l d δ' μ' hd ⟨y6, y7, y8, e1, ht⟩ => ?_) (fun δ' μ' ⟨y6, y7, y8, e1, ht⟩ => ?_)
      · subst e1
        obtain ⟨rfl, hl8⟩ := rangeD_get hd
        walk_at "dl"
        refine ⟨t, 500 * j + 100 + 41 * l, 0, .tuple ds, rfl, ht, by omega, by decide, by decide, ok.fn, by have := ok.sz; omega, fun e μ3 hb ht3 hf3 => ?_⟩
        walk_at "dl"
        obtain ⟨b1, b2, b3⟩ := hb
        have o1 := ok.sz
        have o2 := ok.dp
        have rgt : ∀ (x : PyData) (μ4 : Mu), fine 2 x = true → sz x ≤ 10000 → x.depth ≤ 50 → TapeAt t (500 * j + 100 + 41 * (l + 1)) μ4 → d_law_right [AV.dat x] μ4 fun x μ1 => x = AV.dat (PyData.bool false) ∧ Q (AV.dat (PyData.bool false)) μ1 ∨ x = AV.dat (PyData.bool true) ∧ TapeAt t (500 * j + 100 + 41 * (l + 1)) μ1 := fun x μ4 f1 f2 f3 f4 => ⟨x, rfl, ⟨fine_mono (by decide) f1, f2, f3⟩, .inr ⟨rfl, f4⟩⟩
        refine ⟨t, 3, 500 * j + 100 + 41 * l + 20, rfl, ht3.le (by omega), by omega, by decide, by decide, fun u μ4 g0 g1 ht4 hf4 => ⟨.int u, rfl, ?_⟩⟩
        by_cases hu : u = 0
        · refine .inr ⟨by simp [eqD, hu], t, 500 * j + 100 + 41 * l + 21, 1, e, rfl, ht4.le (by omega), by omega, by decide, by decide, b1, by omega, fun e2 μ5 hb2 ht5 hf5 => ?_⟩
          obtain ⟨c1, c2, c3⟩ := hb2
          exact rgt e2 μ5 c1 (by omega) (by omega) (ht5.le (by omega))
        · exact .inl ⟨by simp [eqD, hu], rgt e μ4 (fine_mono (by decide) b1) (by omega) (by omega) (ht4.le (by omega))⟩
      · subst e1
        walk_at "dl"
        rw [rangeD_len] at ht
        exact ht.le (by omega)
    · subst e1
      walk_at "dl"
      refine ⟨by omega, by omega, by omega, by omega, by omega, by omega, by omega, ?_⟩
      refine for_by (μ1 := μ') [.none, .bool true, .str (Str.ofString ""), .int 7, .tuple [], .list [], .tuple [.int 3, .tuple [.str (Str.ofString "a")], .tuple []], .tuple [.int 3, .tuple [], .tuple []], .tuple [.int 3, .tuple [.str (Str.ofString "a"), .str (Str.ofString "a")], .tuple []], .tuple [.bool true, .tuple [.str (Str.ofString "a")], .tuple []]] (fun R r => by walk_at "dl"; exact r) (fun l δ' μ' => ∃ y2 y3 y4 y5 y6 y7 y8, δ' = [some (.raw ns), some (.dat (.list (cs.map PyData.int))), y2, y3, y4, y5, y6, y7, y8]) ?_ (fun l d δ' μ' hd ⟨y2, y3, y4, y5, y6, y7, y8, e1⟩ => ?_) (fun δ' μ' ⟨y2, y3, y4, y5, y6, y7, y8, e1⟩ => ?_)
      · exact ⟨_, _, _, _, _, _, _, rfl⟩
      · subst e1
        have hm := List.mem_of_getElem? hd
        have okd : Ok 3 10000 50 d := by
          simp only [List.mem_cons, List.not_mem_nil, or_false] at hm
          rcases hm with rfl | rfl | rfl | rfl | rfl | rfl | rfl | rfl | rfl | rfl <;> exact ⟨by decide +kernel, by decide +kernel, by decide +kernel⟩
        walk_at "dl"
        exact ⟨d, rfl, okd, .inr rfl⟩
      · exact ⟨_, _, _, _, _, _, _, e1⟩
  · subst e1
    walk_at "dl"
    exact q μ'
end
end K1


namespace DL
open PySem PySem.Spec PyProof.Rows L2
/-! ### the head: a promise of data, where no repr is under way -/
section
variable {P : Program} {w : World} {K : PySem.W.Frag} {mg mb : Str → Option Value} {st : Shared} {p : Addr} {us : List Value} {zs : List Int}
abbrev scriptObj (us : List Value) : Obj := { cls := .type "list", data := .seq us.toArray }
theorem head_of {H : Hp} (kin : K.In st.heap) (gn : st.heap.Ns mainGlobals mg) (bn : st.heap.Ns builtinsNs mb) (bb : ∀ y : Str, y ≠ "__name__" → mb y = bootBuiltins y)
    (lim : st.heap.NoLimit) (gens : st.gens = #[]) (at_ : st.heap.get? p = some (scriptObj us)) (only : ∀ b, H b ≠ none → b = p) (free : H p ≠ none → K.lookup p = none) (good : HOk P w H st.heap) :
    Env0 P w K mg (hidT st.heap H) callerA [] st H ∧ K.In (hidT st.heap H) ∧ (hidT st.heap H).Ns mainGlobals mg := by
  have out : ∀ {b : Addr} {o : Obj}, st.heap.get? b = some o → (H b ≠ none → b ≠ p) → (hidT st.heap H).get? b = some o := fun {b o} e n => hidT_get e (Classical.byContradiction fun z => n z (only b z))
  have dicts : ∀ {b : Addr} {o : Obj} {es : Array DictEntry} {ep : Nat}, st.heap.get? b = some o → o.data = .dict es ep → b ≠ p := fun {b o es ep} e d z => by
    rw [z, at_] at e
    cases e
    cases d
  have spaces : ∀ {b : Addr} {m : Str → Option Value}, st.heap.Ns b m → (hidT st.heap H).Ns b m := fun ⟨o, es, ep, e, d, r⟩ => ⟨o, es, ep, out e fun _ => dicts e d, d, r⟩
  have kin2 : K.In (hidT st.heap H) := fun b o e => out (kin b o e) fun z q => by
    rw [q] at z e
    rw [free z] at e
    cases e
  obtain ⟨ml, l1, l2⟩ := lim
  have md : Mod K mg (hidT st.heap H) := ⟨kin2, spaces gn, ⟨mb, spaces bn, bb⟩, ⟨ml, spaces l1, l2⟩⟩
  refine ⟨⟨rfl, md, fun b o e => of_hidT e, Nat.le_of_eq (hidT_size _ _), trivial, fun b z => ?_, good, .of_eq gens⟩, kin2, spaces gn⟩
  cases z
theorem head_env (kin : K.In st.heap) (gn : st.heap.Ns mainGlobals mg) (bn : st.heap.Ns builtinsNs mb) (bb : ∀ y : Str, y ≠ "__name__" → mb y = bootBuiltins y)
    (lim : st.heap.NoLimit) (gens : st.gens = #[]) (at_ : st.heap.get? p = some (scriptObj us)) (allI : IntsAre us zs) (short : zs.length ≤ sizeLine) :
    ∃ H : Hp, (∀ b, H b = none ∨ ∃ o ys, H b = some (.frz o (.lst ys))) ∧ SqL K H p (zs.map V.int) ∧ Env0 P w K mg (hidT st.heap H) callerA [] st H ∧ K.In (hidT st.heap H) ∧ (hidT st.heap H).Ns mainGlobals mg := by
  have vals := vals_ints allI
  cases known : K.lookup p with
  | some o =>
    have same := kin p o known
    rw [at_] at same
    cases same
    refine ⟨fun _ => none, fun _ => .inl rfl, .inr ⟨scriptObj us, us.toArray, _, known, rfl, rfl, rfl, ?_, by simpa using vals⟩, head_of kin gn bn bb lim gens at_ (fun b z => absurd rfl z) (fun z => absurd rfl z) fun b u z => ?_⟩
    · rw [List.size_toArray, allI.length]
      exact short
    · cases z
  | none =>
    refine ⟨fun b => if b = p then some (.frz (scriptObj us) (.lst (zs.map V.int))) else none, fun b => ?_, .inl (.inr ⟨scriptObj us, if_pos rfl⟩), head_of kin gn bn bb lim gens at_ (fun b z => ?_) (fun _ => known) fun b u z => ?_⟩
    · by_cases q : b = p
      · exact .inr ⟨scriptObj us, zs.map V.int, if_pos q⟩
      · exact .inl (if_neg q)
    · by_cases q : b = p
      · exact q
      · exact absurd (if_neg q) z
    · by_cases q : b = p
      · subst q
        rw [if_pos rfl] at z
        cases z
        exact ⟨at_, by rw [List.length_map]; exact short, us, _, vals, at_⟩
      · rw [if_neg q] at z
        cases z
theorem law_callG {k : Nat} {f : Addr} {fd : FuncData} {y : Str} {sp : List V → Hp → VK → Prop} (kin : K.In st.heap) (gn : st.heap.Ns mainGlobals mg) (bn : st.heap.Ns builtinsNs mb) (bb : ∀ y : Str, y ≠ "__name__" → mb y = bootBuiltins y)
    (lim : st.heap.NoLimit) (gens : st.gens = #[]) (at_ : st.heap.get? p = some (scriptObj us)) (allI : IntsAre us zs) (short : zs.length ≤ sizeLine) (room : Room k callerA)
    (F : ∀ base : Heap, K.In base → base.Ns mainGlobals mg → FnG P w K mg base k f fd [y] sp) (bd : ∀ (s : Shared) (u : Value), BindsTo s fd ⟨[u], []⟩ [(y, u)])
    (due : ∀ H : Hp, SqL K H p (zs.map V.int) → sp [.ref p] H fun v _ => v = .bl true) :
    codeAny (model P w) callerA (.call (.ref f) ⟨[.ref p], []⟩) (fun r s' => r = .ok (.ret (.bool true)) ∧ OldK st.heap s'.heap ∧ s'.os = st.os ∧ AllBare s'.gens) st := by
  obtain ⟨H, only, seq, env, kin2, gn2⟩ := head_env (P := P) (w := w) kin gn bn bb lim gens at_ allI short
  refine codeAny_mono ((F _ kin2 gn2).go callerA [] st H ⟨[.ref p], []⟩ [.ref p] [.ref p] _ room rfl env (bd st (.ref p)) (.cons rfl .nil) (due H seq)) fun r s' res => ?_
  match r, res with
  | .ok (.ret u), ⟨v, H', os, bare, un, good, rv, q⟩ =>
    have q' : v = .bl true := q
    subst q'
    obtain rfl : u = Value.bool true := rv
    refine ⟨rfl, OldK.of_keep fun b o e => ?_, os, bare⟩
    rcases only b with z | ⟨o2, ys, z⟩
    · exact un.keep b o e z (fun i => nomatch i) (by simp)
    · obtain ⟨e1, _⟩ := env.hok b _ z
      obtain ⟨e2, _⟩ := good b _ (un.frzs b o2 _ z)
      exact e2.trans (e1.symm.trans e)
  | .ok .next, z => exact False.elim z
  | .ok .brk, z => exact False.elim z
  | .ok .cont, z => exact False.elim z
  | .error e, z => exact False.elim z
end
/-- the goal that the head leaves, from the law's promise -/
theorem walk_ofG {l : PySem.W.OpenLaw} {n k : Nat} {q : Program} {loose : List Str} {XP : (Str → Option Value) → Heap → Prop} {YP : World → Heap → Prop} {r : DefRec} {K : Params → PySem.W.Frag} {y : Str} {d : DOs}
    (most : l.most = some n) (small : n ≤ sizeLine) (plain : r.params.defaults = []) (room : Room k callerA) (kin : ∀ (w : World) (h : Heap), YP w h → (K w.params).In h)
    (F : ∀ (w : World) (mg : Str → Option Value) (f : Addr) (h : Heap), (K w.params).In h → h.Ns mainGlobals mg → mg r.name = some (.ref f) →
      ∃ fd : FuncData, (∀ (s : Shared) (u : Value), BindsTo s fd ⟨[u], []⟩ [(y, u)]) ∧ ∀ base : Heap, (K w.params).In base → base.Ns mainGlobals mg → FnG l.prog w (K w.params) mg base k f fd [y] (spOf (K w.params) 1 d))
    (due : ∀ ns : List Int, ns.length ≤ n → d [.raw ns] (fun _ => none) fun x _ => x = .dat (.bool true)) :
    PySem.W.WalkO q loose XP YP l.row.toRowW r [] (fun f vs => PySem.call f vs) := by
  refine Att.attach_call most plain fun w s₀ st mg mb f o pm cd doc p us zs G Y ho hd hcd hmg at_ allI short gens => ?_
  obtain ⟨fd, bd, hF⟩ := F w mg f _ (kin w _ Y) G.T.g hmg
  refine law_callG (kin w _ Y) G.T.g G.T.b G.T.builtins G.T.nolimit gens at_ allI (Nat.le_trans short small) room hF bd fun H seq => ?_
  have hh : hid H (fun _ => none) = H := funext fun b => hid_none rfl
  refine ⟨rfl, [.raw zs], fun _ => none, fun x _ => x = .dat (.bool true), fun a m z => (by cases z), .cons ⟨p, rfl, by rw [hh]; exact seq⟩ .nil, due zs short, fun v H' a μ' _ _ rel e => ?_⟩
  subst e
  cases rel
  rfl
end DL


namespace K1
open PySem PySem.Spec PyProof.Rows L2 RZ DL
section
variable {K : PySem.W.Frag} {h : Heap} {mg : Str → Option Value}
/-- a def of the written part, as its module has it -/
abbrev fdOf (x : Str) (st : Stmt) (kV dc pm : Value) (an : Option Addr) (cd ct : Value) : FuncData := PySem.W.fnOf x x (defArgs st) (defBody st) (defScope st) .none kV dc pm an cd ct
theorem at_def {x : Str} {st : Stmt} {f : Addr} {od an : Option Addr} {sl : Array (Option Value)} {oc kV dc pm cd ct : Value} {ps : List Str} (X : K.In h) (G : h.Ns mainGlobals mg) (a : PySem.W.nsIn K mainGlobals x = some (some (.ref f)))
    (l : K.lookup f = some ⟨oc, od, .func (fdOf x st kV dc pm an cd ct), sl⟩) (c : PySem.W.codeIn K cd x = true) (k : PySem.W.keepIn K (.ref f) = true)
    (hb : ∀ (r1 r2 r3 : Value) (r4 : Option Addr) (r5 r6 : Value) (us : List Value), us.length = ps.length → bindArgs (fdOf x st r1 r2 r3 r4 r5 r6) ⟨us, []⟩ = pure (ps.zip us)) : DefAt K mg x st ps f (fdOf x st kV dc pm an cd ct) :=
  ⟨fun_mk l c k, PySem.W.mg_of X G a, (fun_mk l c k).binds hb⟩
theorem all_known {P : Program} {w : World} {top : Addr} (X : K.In h) (G : h.Ns mainGlobals mg) (htop : mg "law" = some (.ref top))
    {f0 : Addr} {od0 an0 : Option Addr} {sl0 : Array (Option Value)} {oc0 kV0 dc0 pm0 cd0 ct0 : Value}
    (a0 : PySem.W.nsIn K mainGlobals "is_number" = some (some (.ref f0))) (l0 : K.lookup f0 = some ⟨oc0, od0, .func (fdOf "is_number" s_is_number kV0 dc0 pm0 an0 cd0 ct0), sl0⟩) (c0 : PySem.W.codeIn K cd0 "is_number" = true) (k0 : PySem.W.keepIn K (.ref f0) = true)
    {f1 : Addr} {od1 an1 : Option Addr} {sl1 : Array (Option Value)} {oc1 kV1 dc1 pm1 cd1 ct1 : Value}
    (a1 : PySem.W.nsIn K mainGlobals "is_number_within" = some (some (.ref f1))) (l1 : K.lookup f1 = some ⟨oc1, od1, .func (fdOf "is_number_within" s_is_number_within kV1 dc1 pm1 an1 cd1 ct1), sl1⟩) (c1 : PySem.W.codeIn K cd1 "is_number_within" = true) (k1 : PySem.W.keepIn K (.ref f1) = true)
    {f2 : Addr} {od2 an2 : Option Addr} {sl2 : Array (Option Value)} {oc2 kV2 dc2 pm2 cd2 ct2 : Value}
    (a2 : PySem.W.nsIn K mainGlobals "is_name" = some (some (.ref f2))) (l2 : K.lookup f2 = some ⟨oc2, od2, .func (fdOf "is_name" s_is_name kV2 dc2 pm2 an2 cd2 ct2), sl2⟩) (c2 : PySem.W.codeIn K cd2 "is_name" = true) (k2 : PySem.W.keepIn K (.ref f2) = true)
    {f3 : Addr} {od3 an3 : Option Addr} {sl3 : Array (Option Value)} {oc3 kV3 dc3 pm3 cd3 ct3 : Value}
    (a3 : PySem.W.nsIn K mainGlobals "is_tuple_within" = some (some (.ref f3))) (l3 : K.lookup f3 = some ⟨oc3, od3, .func (fdOf "is_tuple_within" s_is_tuple_within kV3 dc3 pm3 an3 cd3 ct3), sl3⟩) (c3 : PySem.W.codeIn K cd3 "is_tuple_within" = true) (k3 : PySem.W.keepIn K (.ref f3) = true)
    {f4 : Addr} {od4 an4 : Option Addr} {sl4 : Array (Option Value)} {oc4 kV4 dc4 pm4 cd4 ct4 : Value}
    (a4 : PySem.W.nsIn K mainGlobals "is_rising" = some (some (.ref f4))) (l4 : K.lookup f4 = some ⟨oc4, od4, .func (fdOf "is_rising" s_is_rising kV4 dc4 pm4 an4 cd4 ct4), sl4⟩) (c4 : PySem.W.codeIn K cd4 "is_rising" = true) (k4 : PySem.W.keepIn K (.ref f4) = true)
    {f5 : Addr} {od5 an5 : Option Addr} {sl5 : Array (Option Value)} {oc5 kV5 dc5 pm5 cd5 ct5 : Value}
    (a5 : PySem.W.nsIn K mainGlobals "_are_callers" = some (some (.ref f5))) (l5 : K.lookup f5 = some ⟨oc5, od5, .func (fdOf "_are_callers" s_are_callers kV5 dc5 pm5 an5 cd5 ct5), sl5⟩) (c5 : PySem.W.codeIn K cd5 "_are_callers" = true) (k5 : PySem.W.keepIn K (.ref f5) = true)
    {f6 : Addr} {od6 an6 : Option Addr} {sl6 : Array (Option Value)} {oc6 kV6 dc6 pm6 cd6 ct6 : Value}
    (a6 : PySem.W.nsIn K mainGlobals "_is_way" = some (some (.ref f6))) (l6 : K.lookup f6 = some ⟨oc6, od6, .func (fdOf "_is_way" s_is_way kV6 dc6 pm6 an6 cd6 ct6), sl6⟩) (c6 : PySem.W.codeIn K cd6 "_is_way" = true) (k6 : PySem.W.keepIn K (.ref f6) = true)
    {f7 : Addr} {od7 an7 : Option Addr} {sl7 : Array (Option Value)} {oc7 kV7 dc7 pm7 cd7 ct7 : Value}
    (a7 : PySem.W.nsIn K mainGlobals "_are_ways" = some (some (.ref f7))) (l7 : K.lookup f7 = some ⟨oc7, od7, .func (fdOf "_are_ways" s_are_ways kV7 dc7 pm7 an7 cd7 ct7), sl7⟩) (c7 : PySem.W.codeIn K cd7 "_are_ways" = true) (k7 : PySem.W.keepIn K (.ref f7) = true)
    {f8 : Addr} {od8 an8 : Option Addr} {sl8 : Array (Option Value)} {oc8 kV8 dc8 pm8 cd8 ct8 : Value}
    (a8 : PySem.W.nsIn K mainGlobals "is_plan" = some (some (.ref f8))) (l8 : K.lookup f8 = some ⟨oc8, od8, .func (fdOf "is_plan" s_is_plan kV8 dc8 pm8 an8 cd8 ct8), sl8⟩) (c8 : PySem.W.codeIn K cd8 "is_plan" = true) (k8 : PySem.W.keepIn K (.ref f8) = true)
    {f9 : Addr} {od9 an9 : Option Addr} {sl9 : Array (Option Value)} {oc9 kV9 dc9 pm9 cd9 ct9 : Value}
    (a9 : PySem.W.nsIn K mainGlobals "_law_tape" = some (some (.ref f9))) (l9 : K.lookup f9 = some ⟨oc9, od9, .func (fdOf "_law_tape" s_law_tape kV9 dc9 pm9 an9 cd9 ct9), sl9⟩) (c9 : PySem.W.codeIn K cd9 "_law_tape" = true) (k9 : PySem.W.keepIn K (.ref f9) = true)
    {f10 : Addr} {od10 an10 : Option Addr} {sl10 : Array (Option Value)} {oc10 kV10 dc10 pm10 cd10 ct10 : Value}
    (a10 : PySem.W.nsIn K mainGlobals "_law_draw" = some (some (.ref f10))) (l10 : K.lookup f10 = some ⟨oc10, od10, .func (fdOf "_law_draw" s_law_draw kV10 dc10 pm10 an10 cd10 ct10), sl10⟩) (c10 : PySem.W.codeIn K cd10 "_law_draw" = true) (k10 : PySem.W.keepIn K (.ref f10) = true)
    {f11 : Addr} {od11 an11 : Option Addr} {sl11 : Array (Option Value)} {oc11 kV11 dc11 pm11 cd11 ct11 : Value}
    (a11 : PySem.W.nsIn K mainGlobals "_law_folded" = some (some (.ref f11))) (l11 : K.lookup f11 = some ⟨oc11, od11, .func (fdOf "_law_folded" s_law_folded kV11 dc11 pm11 an11 cd11 ct11), sl11⟩) (c11 : PySem.W.codeIn K cd11 "_law_folded" = true) (k11 : PySem.W.keepIn K (.ref f11) = true)
    {f12 : Addr} {od12 an12 : Option Addr} {sl12 : Array (Option Value)} {oc12 kV12 dc12 pm12 cd12 ct12 : Value}
    (a12 : PySem.W.nsIn K mainGlobals "_law_names" = some (some (.ref f12))) (l12 : K.lookup f12 = some ⟨oc12, od12, .func (fdOf "_law_names" s_law_names kV12 dc12 pm12 an12 cd12 ct12), sl12⟩) (c12 : PySem.W.codeIn K cd12 "_law_names" = true) (k12 : PySem.W.keepIn K (.ref f12) = true)
    {f13 : Addr} {od13 an13 : Option Addr} {sl13 : Array (Option Value)} {oc13 kV13 dc13 pm13 cd13 ct13 : Value}
    (a13 : PySem.W.nsIn K mainGlobals "_law_part" = some (some (.ref f13))) (l13 : K.lookup f13 = some ⟨oc13, od13, .func (fdOf "_law_part" s_law_part kV13 dc13 pm13 an13 cd13 ct13), sl13⟩) (c13 : PySem.W.codeIn K cd13 "_law_part" = true) (k13 : PySem.W.keepIn K (.ref f13) = true)
    {f14 : Addr} {od14 an14 : Option Addr} {sl14 : Array (Option Value)} {oc14 kV14 dc14 pm14 cd14 ct14 : Value}
    (a14 : PySem.W.nsIn K mainGlobals "_law_is_number" = some (some (.ref f14))) (l14 : K.lookup f14 = some ⟨oc14, od14, .func (fdOf "_law_is_number" s_law_is_number kV14 dc14 pm14 an14 cd14 ct14), sl14⟩) (c14 : PySem.W.codeIn K cd14 "_law_is_number" = true) (k14 : PySem.W.keepIn K (.ref f14) = true)
    {f15 : Addr} {od15 an15 : Option Addr} {sl15 : Array (Option Value)} {oc15 kV15 dc15 pm15 cd15 ct15 : Value}
    (a15 : PySem.W.nsIn K mainGlobals "_law_leaf" = some (some (.ref f15))) (l15 : K.lookup f15 = some ⟨oc15, od15, .func (fdOf "_law_leaf" s_law_leaf kV15 dc15 pm15 an15 cd15 ct15), sl15⟩) (c15 : PySem.W.codeIn K cd15 "_law_leaf" = true) (k15 : PySem.W.keepIn K (.ref f15) = true)
    {f16 : Addr} {od16 an16 : Option Addr} {sl16 : Array (Option Value)} {oc16 kV16 dc16 pm16 cd16 ct16 : Value}
    (a16 : PySem.W.nsIn K mainGlobals "_law_row_bent" = some (some (.ref f16))) (l16 : K.lookup f16 = some ⟨oc16, od16, .func (fdOf "_law_row_bent" s_law_row_bent kV16 dc16 pm16 an16 cd16 ct16), sl16⟩) (c16 : PySem.W.codeIn K cd16 "_law_row_bent" = true) (k16 : PySem.W.keepIn K (.ref f16) = true)
    {f17 : Addr} {od17 an17 : Option Addr} {sl17 : Array (Option Value)} {oc17 kV17 dc17 pm17 cd17 ct17 : Value}
    (a17 : PySem.W.nsIn K mainGlobals "_law_bent" = some (some (.ref f17))) (l17 : K.lookup f17 = some ⟨oc17, od17, .func (fdOf "_law_bent" s_law_bent kV17 dc17 pm17 an17 cd17 ct17), sl17⟩) (c17 : PySem.W.codeIn K cd17 "_law_bent" = true) (k17 : PySem.W.keepIn K (.ref f17) = true)
    {f18 : Addr} {od18 an18 : Option Addr} {sl18 : Array (Option Value)} {oc18 kV18 dc18 pm18 cd18 ct18 : Value}
    (a18 : PySem.W.nsIn K mainGlobals "_law_is_name" = some (some (.ref f18))) (l18 : K.lookup f18 = some ⟨oc18, od18, .func (fdOf "_law_is_name" s_law_is_name kV18 dc18 pm18 an18 cd18 ct18), sl18⟩) (c18 : PySem.W.codeIn K cd18 "_law_is_name" = true) (k18 : PySem.W.keepIn K (.ref f18) = true)
    {f19 : Addr} {od19 an19 : Option Addr} {sl19 : Array (Option Value)} {oc19 kV19 dc19 pm19 cd19 ct19 : Value}
    (a19 : PySem.W.nsIn K mainGlobals "_law_rise" = some (some (.ref f19))) (l19 : K.lookup f19 = some ⟨oc19, od19, .func (fdOf "_law_rise" s_law_rise kV19 dc19 pm19 an19 cd19 ct19), sl19⟩) (c19 : PySem.W.codeIn K cd19 "_law_rise" = true) (k19 : PySem.W.keepIn K (.ref f19) = true)
    {f20 : Addr} {od20 an20 : Option Addr} {sl20 : Array (Option Value)} {oc20 kV20 dc20 pm20 cd20 ct20 : Value}
    (a20 : PySem.W.nsIn K mainGlobals "_law_is_way" = some (some (.ref f20))) (l20 : K.lookup f20 = some ⟨oc20, od20, .func (fdOf "_law_is_way" s_law_is_way kV20 dc20 pm20 an20 cd20 ct20), sl20⟩) (c20 : PySem.W.codeIn K cd20 "_law_is_way" = true) (k20 : PySem.W.keepIn K (.ref f20) = true)
    {f21 : Addr} {od21 an21 : Option Addr} {sl21 : Array (Option Value)} {oc21 kV21 dc21 pm21 cd21 ct21 : Value}
    (a21 : PySem.W.nsIn K mainGlobals "_law_due" = some (some (.ref f21))) (l21 : K.lookup f21 = some ⟨oc21, od21, .func (fdOf "_law_due" s_law_due kV21 dc21 pm21 an21 cd21 ct21), sl21⟩) (c21 : PySem.W.codeIn K cd21 "_law_due" = true) (k21 : PySem.W.keepIn K (.ref f21) = true)
    {f22 : Addr} {od22 an22 : Option Addr} {sl22 : Array (Option Value)} {oc22 kV22 dc22 pm22 cd22 ct22 : Value}
    (a22 : PySem.W.nsIn K mainGlobals "_law_plan" = some (some (.ref f22))) (l22 : K.lookup f22 = some ⟨oc22, od22, .func (fdOf "_law_plan" s_law_plan kV22 dc22 pm22 an22 cd22 ct22), sl22⟩) (c22 : PySem.W.codeIn K cd22 "_law_plan" = true) (k22 : PySem.W.keepIn K (.ref f22) = true)
    {f23 : Addr} {od23 an23 : Option Addr} {sl23 : Array (Option Value)} {oc23 kV23 dc23 pm23 cd23 ct23 : Value}
    (a23 : PySem.W.nsIn K mainGlobals "_law_right" = some (some (.ref f23))) (l23 : K.lookup f23 = some ⟨oc23, od23, .func (fdOf "_law_right" s_law_right kV23 dc23 pm23 an23 cd23 ct23), sl23⟩) (c23 : PySem.W.codeIn K cd23 "_law_right" = true) (k23 : PySem.W.keepIn K (.ref f23) = true)
    {f24 : Addr} {od24 an24 : Option Addr} {sl24 : Array (Option Value)} {oc24 kV24 dc24 pm24 cd24 ct24 : Value}
    (a24 : PySem.W.nsIn K mainGlobals "law" = some (some (.ref f24))) (l24 : K.lookup f24 = some ⟨oc24, od24, .func (fdOf "law" s_law kV24 dc24 pm24 an24 cd24 ct24), sl24⟩) (c24 : PySem.W.codeIn K cd24 "law" = true) (k24 : PySem.W.keepIn K (.ref f24) = true)
    (z_isinstance : PySem.W.nsIn K mainGlobals "isinstance" = some none)
    (z_len : PySem.W.nsIn K mainGlobals "len" = some none)
    (z_all : PySem.W.nsIn K mainGlobals "all" = some none)
    (z_zip : PySem.W.nsIn K mainGlobals "zip" = some none)
    (z_range : PySem.W.nsIn K mainGlobals "range" = some none)
    (z_enumerate : PySem.W.nsIn K mainGlobals "enumerate" = some none)
    (z_sorted : PySem.W.nsIn K mainGlobals "sorted" = some none)
    (z_abs : PySem.W.nsIn K mainGlobals "abs" = some none)
    (z_max : PySem.W.nsIn K mainGlobals "max" = some none)
    (z_min : PySem.W.nsIn K mainGlobals "min" = some none)
    (z_repr : PySem.W.nsIn K mainGlobals "repr" = some none)
    (z_int : PySem.W.nsIn K mainGlobals "int" = some none)
    (z_str : PySem.W.nsIn K mainGlobals "str" = some none)
    (z_bool : PySem.W.nsIn K mainGlobals "bool" = some none)
    (z_list : PySem.W.nsIn K mainGlobals "list" = some none)
    (z_tuple : PySem.W.nsIn K mainGlobals "tuple" = some none)
    {t_LETTERS : Tok} (v_LETTERS : PySem.W.nsIn K mainGlobals "LETTERS" = some (some (.str "abcdefghijklmnopqrstuvwxyz" t_LETTERS)))
    {t_LONGEST_NAME : Tok} (v_LONGEST_NAME : PySem.W.nsIn K mainGlobals "LONGEST_NAME" = some (some (.int 8 t_LONGEST_NAME)))
    {t_CALLERS : Tok} (v_CALLERS : PySem.W.nsIn K mainGlobals "CALLERS" = some (some (.int 8 t_CALLERS)))
    {t_WAYS : Tok} (v_WAYS : PySem.W.nsIn K mainGlobals "WAYS" = some (some (.int 10 t_WAYS)))
    {t_BEATS : Tok} (v_BEATS : PySem.W.nsIn K mainGlobals "BEATS" = some (some (.int 6 t_BEATS)))
    {t_REST : Tok} (v_REST : PySem.W.nsIn K mainGlobals "REST" = some (some (.int 24 t_REST)))
    {t_LEAST_REST : Tok} (v_LEAST_REST : PySem.W.nsIn K mainGlobals "LEAST_REST" = some (some (.int 3 t_LEAST_REST)))
    : ∃ fd : FuncData, (∀ (s : Shared) (u : Value), BindsTo s fd ⟨[u], []⟩ [("script", u)]) ∧ ∀ base : Heap, K.In base → base.Ns mainGlobals mg → FnG P w K mg base 8 top fd ["script"] (spOf K 1 d_law) := by
  have T : Txt K mg := ⟨PySem.W.mg_none_of X G z_isinstance, PySem.W.mg_none_of X G z_len, PySem.W.mg_none_of X G z_all, PySem.W.mg_none_of X G z_zip, PySem.W.mg_none_of X G z_range, PySem.W.mg_none_of X G z_enumerate, PySem.W.mg_none_of X G z_sorted, PySem.W.mg_none_of X G z_abs, PySem.W.mg_none_of X G z_max, PySem.W.mg_none_of X G z_min, PySem.W.mg_none_of X G z_repr, PySem.W.mg_none_of X G z_int, PySem.W.mg_none_of X G z_str, PySem.W.mg_none_of X G z_bool, PySem.W.mg_none_of X G z_list, PySem.W.mg_none_of X G z_tuple, ⟨_, PySem.W.mg_of X G v_LETTERS, ⟨_, rfl⟩⟩, ⟨_, PySem.W.mg_of X G v_LONGEST_NAME, ⟨_, rfl⟩⟩, ⟨_, PySem.W.mg_of X G v_CALLERS, ⟨_, rfl⟩⟩, ⟨_, PySem.W.mg_of X G v_WAYS, ⟨_, rfl⟩⟩, ⟨_, PySem.W.mg_of X G v_BEATS, ⟨_, rfl⟩⟩, ⟨_, PySem.W.mg_of X G v_REST, ⟨_, rfl⟩⟩, ⟨_, PySem.W.mg_of X G v_LEAST_REST, ⟨_, rfl⟩⟩⟩
  have D0 := at_def (ps := ["thing"]) X G a0 l0 c0 k0 fun _ _ _ _ _ _ us hl => match us, hl with | [_], _ => rfl
  have D1 := at_def (ps := ["thing", "least", "most"]) X G a1 l1 c1 k1 fun _ _ _ _ _ _ us hl => match us, hl with | [_, _, _], _ => rfl
  have D2 := at_def (ps := ["thing"]) X G a2 l2 c2 k2 fun _ _ _ _ _ _ us hl => match us, hl with | [_], _ => rfl
  have D3 := at_def (ps := ["thing", "least", "most"]) X G a3 l3 c3 k3 fun _ _ _ _ _ _ us hl => match us, hl with | [_, _, _], _ => rfl
  have D4 := at_def (ps := ["row"]) X G a4 l4 c4 k4 fun _ _ _ _ _ _ us hl => match us, hl with | [_], _ => rfl
  have D5 := at_def (ps := ["thing"]) X G a5 l5 c5 k5 fun _ _ _ _ _ _ us hl => match us, hl with | [_], _ => rfl
  have D6 := at_def (ps := ["thing", "rest", "callers"]) X G a6 l6 c6 k6 fun _ _ _ _ _ _ us hl => match us, hl with | [_, _, _], _ => rfl
  have D7 := at_def (ps := ["thing", "rest", "callers"]) X G a7 l7 c7 k7 fun _ _ _ _ _ _ us hl => match us, hl with | [_, _, _], _ => rfl
  have D8 := at_def (ps := ["thing"]) X G a8 l8 c8 k8 fun _ _ _ _ _ _ us hl => match us, hl with | [_], _ => rfl
  have D9 := at_def (ps := ["script", "k"]) X G a9 l9 c9 k9 fun _ _ _ _ _ _ us hl => match us, hl with | [_, _], _ => rfl
  have D10 := at_def (ps := ["tape", "many"]) X G a10 l10 c10 k10 fun _ _ _ _ _ _ us hl => match us, hl with | [_, _], _ => rfl
  have D11 := at_def (ps := ["script", "many"]) X G a11 l11 c11 k11 fun _ _ _ _ _ _ us hl => match us, hl with | [_, _], _ => rfl
  have D12 := at_def (ps := ["tape", "many"]) X G a12 l12 c12 k12 fun _ _ _ _ _ _ us hl => match us, hl with | [_, _], _ => rfl
  have D13 := at_def (ps := ["tape", "some", "many"]) X G a13 l13 c13 k13 fun _ _ _ _ _ _ us hl => match us, hl with | [_, _, _], _ => rfl
  have D14 := at_def (ps := ["a_thing"]) X G a14 l14 c14 k14 fun _ _ _ _ _ _ us hl => match us, hl with | [_], _ => rfl
  have D15 := at_def (ps := ["tape", "a_thing"]) X G a15 l15 c15 k15 fun _ _ _ _ _ _ us hl => match us, hl with | [_, _], _ => rfl
  have D16 := at_def (ps := ["tape", "a_thing"]) X G a16 l16 c16 k16 fun _ _ _ _ _ _ us hl => match us, hl with | [_, _], _ => rfl
  have D17 := at_def (ps := ["tape", "a_thing", "deep"]) X G a17 l17 c17 k17 fun _ _ _ _ _ _ us hl => match us, hl with | [_, _, _], _ => rfl
  have D18 := at_def (ps := ["a_thing"]) X G a18 l18 c18 k18 fun _ _ _ _ _ _ us hl => match us, hl with | [_], _ => rfl
  have D19 := at_def (ps := ["names"]) X G a19 l19 c19 k19 fun _ _ _ _ _ _ us hl => match us, hl with | [_], _ => rfl
  have D20 := at_def (ps := ["rest", "callers", "a_thing"]) X G a20 l20 c20 k20 fun _ _ _ _ _ _ us hl => match us, hl with | [_, _, _], _ => rfl
  have D21 := at_def (ps := ["a_thing"]) X G a21 l21 c21 k21 fun _ _ _ _ _ _ us hl => match us, hl with | [_], _ => rfl
  have D22 := at_def (ps := ["tape"]) X G a22 l22 c22 k22 fun _ _ _ _ _ _ us hl => match us, hl with | [_], _ => rfl
  have D23 := at_def (ps := ["a_thing"]) X G a23 l23 c23 k23 fun _ _ _ _ _ _ us hl => match us, hl with | [_], _ => rfl
  have D24 := at_def (ps := ["script"]) X G a24 l24 c24 k24 fun _ _ _ _ _ _ us hl => match us, hl with | [_], _ => rfl
  obtain rfl : top = f24 := by
    have e := htop.symm.trans D24.at_
    cases e
    rfl
  refine ⟨fdOf "law" s_law kV24 dc24 pm24 an24 cd24 ct24, fun s u => .of_eq rfl, fun base _ _ => ?_⟩
  have p0 := ok_is_number (P := P) (w := w) (base := base) T  D0
  have p1 := ok_is_number_within (P := P) (w := w) (base := base) T p0 D1
  have p2 := ok_is_name (P := P) (w := w) (base := base) T  D2
  have p3 := ok_is_tuple_within (P := P) (w := w) (base := base) T  D3
  have p4 := ok_is_rising (P := P) (w := w) (base := base) T  D4
  have p5 := ok_are_callers (P := P) (w := w) (base := base) T p3 p2 p4 D5
  have p6 := ok_is_way (P := P) (w := w) (base := base) T p3 p2 p1 D6
  have p7 := ok_are_ways (P := P) (w := w) (base := base) T p3 p6 p4 D7
  have g8 := ok_is_plan_body (P := P) (w := w) (base := base) T p3 p1 p5 p7 D8
  have hl8 : ∀ as μ Q, d_is_plan as μ Q → as.length = 1 := fun as μ Q ⟨d, e, _⟩ => by rw [e]; rfl
  have p8 : Prm P w K mg base 5 "is_plan" 1 d_is_plan := ⟨⟨_, _, _, g8, D8.at_, D8.fn.kp, D8.bd⟩, hl8⟩
  have q8 : PrmK P w K mg base 5 "is_plan" 1 ["thing"] d_is_plan := ⟨⟨_, _, _, g8, D8.at_, D8.fn.kp, fun s ws hl => match ws, hl with | [_], _ => .of_eq rfl⟩, hl8⟩
  have p14 := ok_law_is_number (P := P) (w := w) (base := base) T  D14
  have p18 := ok_law_is_name (P := P) (w := w) (base := base) T  D18
  have p19 := ok_law_rise (P := P) (w := w) (base := base) T  D19
  have p20 := ok_law_is_way (P := P) (w := w) (base := base) T p18 p14 D20
  have p21 := ok_law_due (P := P) (w := w) (base := base) T p18 p14 p19 p20 D21
  have p10 := ok_law_draw (P := P) (w := w) (base := base) T  D10
  have p9 := ok_law_tape (P := P) (w := w) (base := base) T  D9
  have p11 := ok_law_folded (P := P) (w := w) (base := base) T  D11
  have p12 := ok_law_names (P := P) (w := w) (base := base) T p10 D12
  have p13 := ok_law_part (P := P) (w := w) (base := base) T p10 D13
  have p15 := ok_law_leaf (P := P) (w := w) (base := base) T p10 p14 D15
  have p16 := ok_law_row_bent (P := P) (w := w) (base := base) T p10 D16
  have p17 := ok_law_bent (P := P) (w := w) (base := base) T p10 p15 p16 D17 4
  have p22 := ok_law_plan (P := P) (w := w) (base := base) T p10 p12 p13 D22
  have p23 := ok_law_right (P := P) (w := w) (base := base) T p21 p8 q8 D23
  exact ok_law_body (P := P) (w := w) (base := base) T p11 p9 p10 p22 p17 p23 D24
end
end K1
open PySem PySem.W PyProof.Rows
set_option maxHeartbeats 0 in
theorem PySem.Challenge.cw_hoarseheath_k01_plans_or_not_holds : PySem.Challenge.rw_hoarseheath_k01_plans_or_not.Holds := by
  w_on
  o_law
  k_head
  case hw => w_witness2
  k_fill
  refine DL.walk_ofG (l := PySem.Challenge.rw_hoarseheath_k01_plans_or_not) (n := 63) (k := 8) (y := "script") (d := K1.d_law) rfl (by decide) rfl ⟨rfl, by decide, by decide⟩ (fun w h Y => kIn_of Y) ?F fun ns q => ⟨ns, rfl, q, fun _ => rfl⟩
  case F =>
    intro w mg top h KX G htop
    refine' K1.all_known KX G htop ?a0 ?l0 ?c0 ?k0 ?a1 ?l1 ?c1 ?k1 ?a2 ?l2 ?c2 ?k2 ?a3 ?l3 ?c3 ?k3 ?a4 ?l4 ?c4 ?k4 ?a5 ?l5 ?c5 ?k5 ?a6 ?l6 ?c6 ?k6 ?a7 ?l7 ?c7 ?k7 ?a8 ?l8 ?c8 ?k8 ?a9 ?l9 ?c9 ?k9 ?a10 ?l10 ?c10 ?k10 ?a11 ?l11 ?c11 ?k11 ?a12 ?l12 ?c12 ?k12 ?a13 ?l13 ?c13 ?k13 ?a14 ?l14 ?c14 ?k14 ?a15 ?l15 ?c15 ?k15 ?a16 ?l16 ?c16 ?k16 ?a17 ?l17 ?c17 ?k17 ?a18 ?l18 ?c18 ?k18 ?a19 ?l19 ?c19 ?k19 ?a20 ?l20 ?c20 ?k20 ?a21 ?l21 ?c21 ?k21 ?a22 ?l22 ?c22 ?k22 ?a23 ?l23 ?c23 ?k23 ?a24 ?l24 ?c24 ?k24 ?z_isinstance ?z_len ?z_all ?z_zip ?z_range ?z_enumerate ?z_sorted ?z_abs ?z_max ?z_min ?z_repr ?z_int ?z_str ?z_bool ?z_list ?z_tuple ?v_LETTERS ?v_LONGEST_NAME ?v_CALLERS ?v_WAYS ?v_BEATS ?v_REST ?v_LEAST_REST
    (case a0 => k_is)
    (case l0 => k_is)
    (case c0 => k_is)
    (case k0 => k_is)
    (case a1 => k_is)
    (case l1 => k_is)
    (case c1 => k_is)
    (case k1 => k_is)
    (case a2 => k_is)
    (case l2 => k_is)
    (case c2 => k_is)
    (case k2 => k_is)
    (case a3 => k_is)
    (case l3 => k_is)
    (case c3 => k_is)
    (case k3 => k_is)
    (case a4 => k_is)
    (case l4 => k_is)
    (case c4 => k_is)
    (case k4 => k_is)
    (case a5 => k_is)
    (case l5 => k_is)
    (case c5 => k_is)
    (case k5 => k_is)
    (case a6 => k_is)
    (case l6 => k_is)
    (case c6 => k_is)
    (case k6 => k_is)
    (case a7 => k_is)
    (case l7 => k_is)
    (case c7 => k_is)
    (case k7 => k_is)
    (case a8 => k_is)
    (case l8 => k_is)
    (case c8 => k_is)
    (case k8 => k_is)
    (case a9 => k_is)
    (case l9 => k_is)
    (case c9 => k_is)
    (case k9 => k_is)
    (case a10 => k_is)
    (case l10 => k_is)
    (case c10 => k_is)
    (case k10 => k_is)
    (case a11 => k_is)
    (case l11 => k_is)
    (case c11 => k_is)
    (case k11 => k_is)
    (case a12 => k_is)
    (case l12 => k_is)
    (case c12 => k_is)
    (case k12 => k_is)
    (case a13 => k_is)
    (case l13 => k_is)
    (case c13 => k_is)
    (case k13 => k_is)
    (case a14 => k_is)
    (case l14 => k_is)
    (case c14 => k_is)
    (case k14 => k_is)
    (case a15 => k_is)
    (case l15 => k_is)
    (case c15 => k_is)
    (case k15 => k_is)
    (case a16 => k_is)
    (case l16 => k_is)
    (case c16 => k_is)
    (case k16 => k_is)
    (case a17 => k_is)
    (case l17 => k_is)
    (case c17 => k_is)
    (case k17 => k_is)
    (case a18 => k_is)
    (case l18 => k_is)
    (case c18 => k_is)
    (case k18 => k_is)
    (case a19 => k_is)
    (case l19 => k_is)
    (case c19 => k_is)
    (case k19 => k_is)
    (case a20 => k_is)
    (case l20 => k_is)
    (case c20 => k_is)
    (case k20 => k_is)
    (case a21 => k_is)
    (case l21 => k_is)
    (case c21 => k_is)
    (case k21 => k_is)
    (case a22 => k_is)
    (case l22 => k_is)
    (case c22 => k_is)
    (case k22 => k_is)
    (case a23 => k_is)
    (case l23 => k_is)
    (case c23 => k_is)
    (case k23 => k_is)
    (case a24 => k_is)
    (case l24 => k_is)
    (case c24 => k_is)
    (case k24 => k_is)
    (case z_isinstance => k_is)
    (case z_len => k_is)
    (case z_all => k_is)
    (case z_zip => k_is)
    (case z_range => k_is)
    (case z_enumerate => k_is)
    (case z_sorted => k_is)
    (case z_abs => k_is)
    (case z_max => k_is)
    (case z_min => k_is)
    (case z_repr => k_is)
    (case z_int => k_is)
    (case z_str => k_is)
    (case z_bool => k_is)
    (case z_list => k_is)
    (case z_tuple => k_is)
    (case v_LETTERS => k_is)
    (case v_LONGEST_NAME => k_is)
    (case v_CALLERS => k_is)
    (case v_WAYS => k_is)
    (case v_BEATS => k_is)
    (case v_REST => k_is)
    (case v_LEAST_REST => k_is)

